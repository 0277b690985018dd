/-
  Two strings whose concatenation is a word are words, and two words together are a word if they have at most 40 runes: the law AlphabetJoins returns true. Conditions: none.
-/
import Derived.Test.YtjjgfolplpbaiaaDoorAlphFrame
import Derived.Test.YtjjgfolplpbaiaaDoorAlphIsWord
import Derived.Test.YtjjgfolplpbaiaaDoorCards
import Derived.Test.YtjjgfolplpbaiaaDoorTie
import Derived.Deep.DeepHandedRow
import Derived.Deep.DeepWitnessRowRef
import Derived.SevenTiedAt
namespace Go.Proofs.YtjjgfolplpbaiaaDoor.lawAJoins
open Go.ChangeShapes Go.WideShapes Go.ChangeAt Go.RowKit
open Go.ChangeMaps (open_string shut_string)
open AlphPlain

set_option maxRecDepth 100000 in
set_option maxHeartbeats 3200000 in
theorem walk (A : Option Addr) (n c : Nat) (ls : List Lt) (s t : ByteArray) (w : World) (hT : Tabs w) (ha : Ll w A n c ls) (_ : c * 8 ≤ reachBytes) (zs : s.size ≤ maxLen) (zt : t.size ≤ maxLen) :
    Calls Tryd.prog 7 #[.slice A n c, .string s, .string t] w (BoolPost w true) := by
  cases hf : fewB n [s, t]
  · go_enter Tryd.func7, Tryd.ntmps7
    go_wp2_with fail
    have h1 := awake_any w hT
    refine h1.mono ?_
    rintro e w1 ⟨rfl, N1⟩
    clear h1
    have A1 := N1
    go_wp2_with fail
    have h1 := few_any A n c ls _ 2 2 [s, t] (w1.alloc (.cells #[.string s, .string t] 9)) (ha.aft (A1.alloc _)) (two_strs w1 s t) (fun x hx => by simp at hx; rcases hx with rfl | rfl <;> assumption)
    rw [hf] at h1
    refine h1.mono ?_
    rintro e w2 ⟨rfl, N2⟩
    clear h1
    have A2 := (A1.alloc _).trans N2
    go_wp2_with fail
    have h1 := awake_any w2 (tabs_aft hT A2)
    refine h1.mono ?_
    rintro e w3 ⟨rfl, N3⟩
    clear h1
    have A3 := A2.trans N3
    go_wp2
    go_ret
    exact ⟨by first | rfl | simp, A3⟩
  · have hsz : s.size ≤ 200 ∧ t.size ≤ 200 := by simp only [fewB, Bool.and_eq_true, List.all_cons, List.all_nil, decide_eq_true_eq] at hf; exact ⟨hf.1.1.1, hf.1.1.2.1⟩
    cases us : utfB s
    · go_enter Tryd.func7, Tryd.ntmps7
      go_wp2_with fail
      have h1 := awake_any w hT
      refine h1.mono ?_
      rintro e w1 ⟨rfl, N1⟩
      clear h1
      have A1 := N1
      go_wp2_with fail
      have h1 := few_any A n c ls _ 2 2 [s, t] (w1.alloc (.cells #[.string s, .string t] 9)) (ha.aft (A1.alloc _)) (two_strs w1 s t) (fun x hx => by simp at hx; rcases hx with rfl | rfl <;> assumption)
      rw [hf] at h1
      refine h1.mono ?_
      rintro e w2 ⟨rfl, N2⟩
      clear h1
      have A2 := (A1.alloc _).trans N2
      go_wp2_with fail
      have h1 := refUtf_any s hsz.1 w2
      rw [us] at h1
      refine h1.mono ?_
      rintro e w3 ⟨rfl, N3⟩
      clear h1
      have A3 := A2.trans N3
      go_wp2_with fail
      have h1 := awake_any w3 (tabs_aft hT A3)
      refine h1.mono ?_
      rintro e w4 ⟨rfl, N4⟩
      clear h1
      have A4 := A3.trans N4
      go_wp2
      go_ret
      exact ⟨by first | rfl | simp, A4⟩
    · cases ut : utfB t
      · go_enter Tryd.func7, Tryd.ntmps7
        go_wp2_with fail
        have h1 := awake_any w hT
        refine h1.mono ?_
        rintro e w1 ⟨rfl, N1⟩
        clear h1
        have A1 := N1
        go_wp2_with fail
        have h1 := few_any A n c ls _ 2 2 [s, t] (w1.alloc (.cells #[.string s, .string t] 9)) (ha.aft (A1.alloc _)) (two_strs w1 s t) (fun x hx => by simp at hx; rcases hx with rfl | rfl <;> assumption)
        rw [hf] at h1
        refine h1.mono ?_
        rintro e w2 ⟨rfl, N2⟩
        clear h1
        have A2 := (A1.alloc _).trans N2
        go_wp2_with fail
        have h1 := refUtf_any s hsz.1 w2
        rw [us] at h1
        refine h1.mono ?_
        rintro e w3 ⟨rfl, N3⟩
        clear h1
        have A3 := A2.trans N3
        go_wp2_with fail
        have h1 := refUtf_any t hsz.2 w3
        rw [ut] at h1
        refine h1.mono ?_
        rintro e w4 ⟨rfl, N4⟩
        clear h1
        have A4 := A3.trans N4
        go_wp2_with fail
        have h1 := awake_any w4 (tabs_aft hT A4)
        refine h1.mono ?_
        rintro e w5 ⟨rfl, N5⟩
        clear h1
        have A5 := A4.trans N5
        go_wp2
        go_ret
        exact ⟨by first | rfl | simp, A5⟩
      · have HJ := Lib.hid (wordB_joins ls s t ((utfB_valid s).symm.trans us) ((utfB_valid t).symm.trans ut))
        have hz2 : (s ++ t).size < 9223372036854775807 := by rw [ByteArray.size_append]; omega
        cases x : wordB ls s
        · have HB : wordB ls (s ++ t) = false := by rw [HJ.out, x]; rfl
          have HB := Lib.hid HB
          go_enter Tryd.func7, Tryd.ntmps7
          go_wp2_with fail
          have h1 := awake_any w hT
          refine h1.mono ?_
          rintro e w1 ⟨rfl, N1⟩
          clear h1
          have A1 := N1
          go_wp2_with fail
          have h1 := few_any A n c ls _ 2 2 [s, t] (w1.alloc (.cells #[.string s, .string t] 9)) (ha.aft (A1.alloc _)) (two_strs w1 s t) (fun x hx => by simp at hx; rcases hx with rfl | rfl <;> assumption)
          rw [hf] at h1
          refine h1.mono ?_
          rintro e w2 ⟨rfl, N2⟩
          clear h1
          have A2 := (A1.alloc _).trans N2
          go_wp2_with fail
          have h1 := refUtf_any s hsz.1 w2
          rw [us] at h1
          refine h1.mono ?_
          rintro e w3 ⟨rfl, N3⟩
          clear h1
          have A3 := A2.trans N3
          go_wp2_with fail
          have h1 := refUtf_any t hsz.2 w3
          rw [ut] at h1
          refine h1.mono ?_
          rintro e w4 ⟨rfl, N4⟩
          clear h1
          have A4 := A3.trans N4
          go_wp2_with fail
          have h1 := isWord_any A n c ls s w4 (ha.aft A4) (by omega) (tabs_aft hT A4)
          rw [x] at h1
          refine h1.mono ?_
          rintro e w5 ⟨rfl, N5⟩
          clear h1
          have A5 := A4.trans N5
          go_wp2_with fail
          have h1 := isWord_any A n c ls (s ++ t) w5 (ha.aft A5) hz2 (tabs_aft hT A5)
          rw [HB.out] at h1
          refine h1.mono ?_
          rintro e w6 ⟨rfl, N6⟩
          clear h1
          have A6 := A5.trans N6
          go_wp2
          go_ret
          exact ⟨by first | rfl | simp, A6⟩
        · cases y : wordB ls t
          · have HB : wordB ls (s ++ t) = false := by rw [HJ.out, x, y]; rfl
            have HB := Lib.hid HB
            go_enter Tryd.func7, Tryd.ntmps7
            go_wp2_with fail
            have h1 := awake_any w hT
            refine h1.mono ?_
            rintro e w1 ⟨rfl, N1⟩
            clear h1
            have A1 := N1
            go_wp2_with fail
            have h1 := few_any A n c ls _ 2 2 [s, t] (w1.alloc (.cells #[.string s, .string t] 9)) (ha.aft (A1.alloc _)) (two_strs w1 s t) (fun x hx => by simp at hx; rcases hx with rfl | rfl <;> assumption)
            rw [hf] at h1
            refine h1.mono ?_
            rintro e w2 ⟨rfl, N2⟩
            clear h1
            have A2 := (A1.alloc _).trans N2
            go_wp2_with fail
            have h1 := refUtf_any s hsz.1 w2
            rw [us] at h1
            refine h1.mono ?_
            rintro e w3 ⟨rfl, N3⟩
            clear h1
            have A3 := A2.trans N3
            go_wp2_with fail
            have h1 := refUtf_any t hsz.2 w3
            rw [ut] at h1
            refine h1.mono ?_
            rintro e w4 ⟨rfl, N4⟩
            clear h1
            have A4 := A3.trans N4
            go_wp2_with fail
            have h1 := isWord_any A n c ls s w4 (ha.aft A4) (by omega) (tabs_aft hT A4)
            rw [x] at h1
            refine h1.mono ?_
            rintro e w5 ⟨rfl, N5⟩
            clear h1
            have A5 := A4.trans N5
            go_wp2_with fail
            have h1 := isWord_any A n c ls t w5 (ha.aft A5) (by omega) (tabs_aft hT A5)
            rw [y] at h1
            refine h1.mono ?_
            rintro e w6 ⟨rfl, N6⟩
            clear h1
            have A6 := A5.trans N6
            go_wp2_with fail
            have h1 := isWord_any A n c ls (s ++ t) w6 (ha.aft A6) hz2 (tabs_aft hT A6)
            rw [HB.out] at h1
            refine h1.mono ?_
            rintro e w7 ⟨rfl, N7⟩
            clear h1
            have A7 := A6.trans N7
            go_wp2
            go_ret
            exact ⟨by first | rfl | simp, A7⟩
          · have e1 := conv_run s (by omega)
            have e2 := conv_run t (by omega)
            have HB : wordB ls (s ++ t) = decide ((runesOf s).length + (runesOf t).length ≤ 40) := by rw [HJ.out, x, y]; rfl
            have HB := Lib.hid HB
            have hX : (runesOf s).length ≤ 200 := by have := size_runesFrom s s.size 0 #[]; rw [runes_size] at this; simp at this; omega
            have hY : (runesOf t).length ≤ 200 := by have := size_runesFrom t t.size 0 #[]; rw [runes_size] at this; simp at this; omega
            go_enter Tryd.func7, Tryd.ntmps7
            go_wp2_with fail
            have h1 := awake_any w hT
            refine h1.mono ?_
            rintro e w1 ⟨rfl, N1⟩
            clear h1
            have A1 := N1
            go_wp2_with fail
            have h1 := few_any A n c ls _ 2 2 [s, t] (w1.alloc (.cells #[.string s, .string t] 9)) (ha.aft (A1.alloc _)) (two_strs w1 s t) (fun x hx => by simp at hx; rcases hx with rfl | rfl <;> assumption)
            rw [hf] at h1
            refine h1.mono ?_
            rintro e w2 ⟨rfl, N2⟩
            clear h1
            have A2 := (A1.alloc _).trans N2
            go_wp2_with fail
            have h1 := refUtf_any s hsz.1 w2
            rw [us] at h1
            refine h1.mono ?_
            rintro e w3 ⟨rfl, N3⟩
            clear h1
            have A3 := A2.trans N3
            go_wp2_with fail
            have h1 := refUtf_any t hsz.2 w3
            rw [ut] at h1
            refine h1.mono ?_
            rintro e w4 ⟨rfl, N4⟩
            clear h1
            have A4 := A3.trans N4
            go_wp2_with fail
            have h1 := isWord_any A n c ls s w4 (ha.aft A4) (by omega) (tabs_aft hT A4)
            rw [x] at h1
            refine h1.mono ?_
            rintro e w5 ⟨rfl, N5⟩
            clear h1
            have A5 := A4.trans N5
            go_wp2_with fail
            have h1 := isWord_any A n c ls t w5 (ha.aft A5) (by omega) (tabs_aft hT A5)
            rw [y] at h1
            refine h1.mono ?_
            rintro e w6 ⟨rfl, N6⟩
            clear h1
            have A6 := A5.trans N6
            have A7 := (A6.trans (conv_aft s w6)).trans (conv_aft t (convW s w6))
            go_wp2_with fail
            have h1 := isWord_any A n c ls (s ++ t) _ (ha.aft A7) hz2 (tabs_aft hT A7)
            rw [HB.out] at h1
            refine h1.mono ?_
            rintro e w8 ⟨rfl, N8⟩
            clear h1
            have A8 := A7.trans N8
            go_wp2
            go_ret
            exact ⟨by first | rfl | (simp; done) | (simp; omega), A8⟩

theorem own : ownKnob Tryd.prog.godebug = none := by kernel_rfl
theorem laidOut : laidOutB Tryd.prog = true := by kernel_rfl
theorem bytesA : Tryd.prog.bytesOf 31 = 8 := by kernel_rfl

set_option maxRecDepth 100000 in
theorem contract (H : Type) (enc : TypeId × Value → H) (W : World) (base : Nat) (args : Array Value) (ds gs : List (DataW H)) (before : List MemPlace)
    (hval : ∀ (j : Nat) t v, Tryd.f7.params[j]? = some t → args[j]? = some v → Value.okWide Tryd.prog W .any base t v)
    (hW : DataW.Whole enc Tryd.prog Tryd.f7.params.toList Rows.alphabetJoinsSpec.vars false W args.toList ds gs before) (hsz0 : (DataW.weightsEach Tryd.prog (Tryd.f7.params.toList ++ Rows.alphabetJoinsSpec.plain.varTypes Tryd.prog) (ds ++ gs)).all (· ≤ reachBytes) = true) (hL : laidMetH Tryd.prog listed W) :
    Calls Tryd.prog 7 args W fun e W' => ∃ v, e = .returned v ∧ Rows.alphabetJoinsSpec.post enc Tryd.prog Tryd.f7 false true false false W args v W' := by
  have hW' := hW
  obtain ⟨p, q, hA0, hV, rfl, hfz, hnd⟩ := hW
  have hA : DataW.TrodAll enc Tryd.prog W 0 (fun _ => true) true Tryd.f7.params.toList args.toList ds p := hA0
  have hsz := hsz0
  rw [Tryd.params7] at hA hval hsz
  obtain ⟨v0, vs0, d0, ds0, p0, q0, hargs, rfl, rfl, h0, r0⟩ := trodAll_cons hA
  obtain ⟨v1, vs1, d1, ds1, p1, q1, rfl, rfl, rfl, h1, r1⟩ := trodAll_cons r0
  obtain ⟨v2, vs2, d2, ds2, p2, q2, rfl, rfl, rfl, h2, r2⟩ := trodAll_cons r1
  obtain ⟨rfl, rfl, rfl⟩ := trodAll_nil r2
  obtain rfl : args = #[v0, v1, v2] := by cases args; simp_all
  obtain ⟨rfl, rfl⟩ := trodVars_none hV
  obtain ⟨a0, len0, cap0, rfl⟩ := okWide_slice Tryd.underlying22 (hval 0 22 v0 rfl rfl)
  have lt0 : ∀ x ∈ p0, x.block < W.heap.size := by obtain ⟨m, hm⟩ := h0; exact DataW.trod_lt m _ _ _ hm
  obtain ⟨xs0, s0, b0⟩ := letters_of h0 (Nat.le_refl _) (fun el sp e => by have := sized_slice hsz (j := 0) (t := 22) (e := 31) rfl (by rw [e]; rfl) Tryd.underlying22; rwa [bytesA] at this)
  obtain ⟨xs1, rfl, rfl, rfl, z1⟩ := open_string Tryd.underlying9 (hval 1 9 v1 rfl rfl) h1
  obtain ⟨xs2, rfl, rfl, rfl, z2⟩ := open_string Tryd.underlying9 (hval 2 9 v2 rfl rfl) h2
  clear hA0
  refine (walk a0 len0 cap0 xs0 xs1 xs2 W (tabs_of hL) s0 b0 z1 z2).mono fun e W' ⟨he, bel⟩ => ?_
  subst he
  exact ⟨_, rfl, _, _, _, [], _, [], hW', trodAll_mk1 (shut_bool Tryd.underlying4 _), (trodAll_cons_mk (Below.trod laidOut (by kernel_rfl) (of_decide_eq_true (by kernel_rfl)) h0 bel lt0) (trodAll_cons_mk (shut_string Tryd.underlying9 z1) (trodAll_cons_mk (shut_string Tryd.underlying9 z2) trodAll_mk0))), rfl, Below.frame bel _, fun h => by cases h⟩

theorem witness_row (os : Os) {H : Type} (enc : TypeId × Value → H) :
    (OpenSpec.ofChange Rows.alphabetJoinsSpec).preRow enc Tryd.prog Tryd.f7 Rows.alphabetJoinsRow.domain false Rows.alphabetJoinsRow.laid ((laidWorld os).forCall (fun _ _ => 0) ⟨#[], #[.slice none 0 0, .string ⟨#[]⟩, .string ⟨#[]⟩], []⟩).memory #[.slice none 0 0, .string ⟨#[]⟩, .string ⟨#[]⟩] := by
  have hw : (DataW.whole enc Tryd.prog ((laidWorld os).forCall (fun _ _ => 0) ⟨#[], #[.slice none 0 0, .string ⟨#[]⟩, .string ⟨#[]⟩], []⟩).memory Tryd.f7.params.toList Rows.alphabetJoinsSpec.vars false (#[.slice none 0 0, .string ⟨#[]⟩, .string ⟨#[]⟩] : Array Value).toList 8).map (fun x => (x.1, x.2.1)) =
      some ([.nil, .lit (.string []), .lit (.string [])], []) := by kernel_rfl
  obtain ⟨⟨x1, x2, x3⟩, hx, hx1⟩ := Option.map_eq_some_iff.1 hw
  simp only [Prod.mk.injEq] at hx1
  obtain ⟨rfl, rfl⟩ := hx1
  exact OpenSpec.preRow_of_cond 8 hx (by kernel_rfl) (fun k hk => by cases hk) (by kernel_rfl) (laid_met os _)

set_option maxRecDepth 100000 in
theorem lifted (os : Os) (started : os.Started) (H : Type) (enc : TypeId × Value → H) (F : Stop.Interp) :
    ReturnsInHanded {} Tryd.checked os 7 .any ((OpenSpec.ofChange Rows.alphabetJoinsSpec).preRow enc Tryd.prog Tryd.f7 Rows.alphabetJoinsRow.domain false Rows.alphabetJoinsRow.laid) (((OpenSpec.ofChange Rows.alphabetJoinsSpec).at F).post enc Tryd.prog Tryd.f7 false true false false) := by
  refine returnsInHanded_of_row (C := Tryd.checked) (s := (OpenSpec.ofChange Rows.alphabetJoinsSpec)) own started (by kernel_rfl) Tryd.func7
    (witness_row_atRef (enc := enc) (C := Tryd.checked) false (laidWorld os) #[.slice none 0 0, .string ⟨#[]⟩, .string ⟨#[]⟩] rfl (by kernel_rfl) (by kernel_rfl) (by kernel_rfl) (witness_row os enc)) ?_
  intro W base args ds gs before hval hW _ _ hsz hL _ _
  exact contract H enc W base args ds gs before hval hW hsz hL

theorem row : Rows.AlphabetJoinsSaid :=
  OpenClaim.holds_of_cond 7 Tryd.f7 rfl rfl rfl rfl rfl rfl rfl ⟨rfl, rfl, rfl, rfl, rfl⟩ rfl rfl rfl rfl rfl (by kernel_rfl) Tryd.func7 (by kernel_rfl)
    (of_decide_eq_true (by kernel_rfl)) (by unfold Func.isWrapper; rw [if_neg (of_decide_eq_false (by kernel_rfl))]; exact ⟨rfl, rfl⟩)
    (fun os started H enc _ F0 => by rw [OpenClaim.pre_eq_preRow]; exact lifted os started H enc F0)

/-- No parameter wants a stand-in; the program's own looks are off. -/
theorem plain (f : FuncId) (fn : Func) (hf : Tryd.pinned.checked.prog.funcNamed "pentaglot/pentaglotlaw01.AlphabetJoins" = some f) (hfn : Tryd.pinned.checked.prog.funcs[f]? = some fn) :
    false = Tryd.pinned.checked.prog.looks [] ∧ ∀ (j : Nat) t, fn.params[j]? = some t → Tryd.pinned.checked.prog.wantsStandIn t = false := by
  obtain rfl : f = 7 := Option.some.inj ((show Tryd.prog.funcNamed "pentaglot/pentaglotlaw01.AlphabetJoins" = some 7 by kernel_rfl).symm.trans hf) |>.symm
  obtain rfl : fn = Tryd.f7 := (Option.some.inj (Tryd.func7.symm.trans hfn)).symm
  refine ⟨by kernel_rfl, fun j t ht => ?_⟩
  rw [Tryd.params7] at ht
  have hm : t = 22 ∨ t = 9 ∨ t = 9 := by simpa using Array.mem_of_getElem? ht
  rcases hm with rfl | rfl | rfl
  · exact (show Tryd.prog.wantsStandIn 22 = false by kernel_rfl)
  · exact (show Tryd.prog.wantsStandIn 9 = false by kernel_rfl)
  · exact (show Tryd.prog.wantsStandIn 9 = false by kernel_rfl)

theorem proved : Rows.AlphabetJoinsCardSaid :=
  Claim7.holds_tied_plain_at .later [] _ _ _ _ row (fun _ h => by cases h) (by kernel_rfl) (fun _ h => by cases h) alphabetJoins_row_tie rfl ⟨rfl, rfl⟩ (by kernel_rfl) rfl plain (by kernel_rfl)
#print axioms proved
end Go.Proofs.YtjjgfolplpbaiaaDoor.lawAJoins
