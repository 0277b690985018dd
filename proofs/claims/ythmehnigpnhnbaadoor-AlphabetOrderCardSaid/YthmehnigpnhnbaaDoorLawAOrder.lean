/-
  Compare is a total order: antisymmetric, transitive, and zero only for equal strings of valid UTF-8: the walk of the law AlphabetOrder. Conditions: none.
-/
import Derived.Test.YthmehnigpnhnbaaDoorAlphFrame
import Derived.Test.YthmehnigpnhnbaaDoorAlphOrder
import Derived.Test.YthmehnigpnhnbaaDoorCards
import Derived.Test.YthmehnigpnhnbaaDoorTie
import Derived.Deep.DeepHandedRow
import Derived.Deep.DeepWitnessRowRef
import Derived.SevenTiedAt
namespace Go.Proofs.YthmehnigpnhnbaaDoor.lawAOrder
open Go.ChangeShapes Go.WideShapes Go.ChangeAt Go.RowKit
open Go.ChangeMaps (open_string shut_string)
open AlphPlain

set_option maxRecDepth 100000 in
set_option maxHeartbeats 3200000 in
theorem walk0 (A : Option Addr) (n c : Nat) (ls : List Lt) (s t u : ByteArray) (w : World) (hT : Tabs w) (ha : Ll w A n c ls) (zs : s.size ≤ maxLen) (zt : t.size ≤ maxLen) (zu : u.size ≤ maxLen) :
    Calls Tryd.prog 9 #[.slice A n c, .string s, .string t, .string u] w (BoolPost w true) := by
  cases hf : fewB n [s, t, u]
  · go_enter Tryd.func9, Tryd.ntmps9
    go_wp2_with fail
    have h1 := awake_any w hT
    refine h1.mono ?_
    rintro e w1 ⟨rfl, N1⟩
    clear h1
    have A1 := N1
    go_wp2_with fail
    have h1 := few_any A n c ls _ 3 3 [s, t, u] (w1.alloc (.cells #[.string s, .string t, .string u] 9)) (ha.aft (A1.alloc _)) (three_strs w1 s t u) (fun x hx => by simp at hx; rcases hx with rfl | rfl | rfl <;> assumption)
    rw [hf] at h1
    refine h1.mono ?_
    rintro e w2 ⟨rfl, N2⟩
    clear h1
    have A2 := (A1.alloc _).trans N2
    go_wp2_with fail
    have h1 := awake_any w2 (tabs_aft hT A2)
    refine h1.mono ?_
    rintro e w3 ⟨rfl, N3⟩
    clear h1
    have A3 := A2.trans N3
    go_wp2
    go_ret
    exact ⟨by first | rfl | simp, A3⟩
  · have hsz : s.size ≤ 200 ∧ t.size ≤ 200 := by simp only [fewB, Bool.and_eq_true, List.all_cons, List.all_nil, decide_eq_true_eq] at hf; exact ⟨hf.1.1.1, hf.1.1.2.1⟩
    cases us : utfB s
    · go_enter Tryd.func9, Tryd.ntmps9
      go_wp2_with fail
      have h1 := awake_any w hT
      refine h1.mono ?_
      rintro e w1 ⟨rfl, N1⟩
      clear h1
      have A1 := N1
      go_wp2_with fail
      have h1 := few_any A n c ls _ 3 3 [s, t, u] (w1.alloc (.cells #[.string s, .string t, .string u] 9)) (ha.aft (A1.alloc _)) (three_strs w1 s t u) (fun x hx => by simp at hx; rcases hx with rfl | rfl | rfl <;> assumption)
      rw [hf] at h1
      refine h1.mono ?_
      rintro e w2 ⟨rfl, N2⟩
      clear h1
      have A2 := (A1.alloc _).trans N2
      go_wp2_with fail
      have h1 := refUtf_any s hsz.1 w2
      rw [us] at h1
      refine h1.mono ?_
      rintro e w3 ⟨rfl, N3⟩
      clear h1
      have A3 := A2.trans N3
      go_wp2_with fail
      have h1 := awake_any w3 (tabs_aft hT A3)
      refine h1.mono ?_
      rintro e w4 ⟨rfl, N4⟩
      clear h1
      have A4 := A3.trans N4
      go_wp2
      go_ret
      exact ⟨by first | rfl | simp, A4⟩
    · cases ut : utfB t
      · go_enter Tryd.func9, Tryd.ntmps9
        go_wp2_with fail
        have h1 := awake_any w hT
        refine h1.mono ?_
        rintro e w1 ⟨rfl, N1⟩
        clear h1
        have A1 := N1
        go_wp2_with fail
        have h1 := few_any A n c ls _ 3 3 [s, t, u] (w1.alloc (.cells #[.string s, .string t, .string u] 9)) (ha.aft (A1.alloc _)) (three_strs w1 s t u) (fun x hx => by simp at hx; rcases hx with rfl | rfl | rfl <;> assumption)
        rw [hf] at h1
        refine h1.mono ?_
        rintro e w2 ⟨rfl, N2⟩
        clear h1
        have A2 := (A1.alloc _).trans N2
        go_wp2_with fail
        have h1 := refUtf_any s hsz.1 w2
        rw [us] at h1
        refine h1.mono ?_
        rintro e w3 ⟨rfl, N3⟩
        clear h1
        have A3 := A2.trans N3
        go_wp2_with fail
        have h1 := refUtf_any t hsz.2 w3
        rw [ut] at h1
        refine h1.mono ?_
        rintro e w4 ⟨rfl, N4⟩
        clear h1
        have A4 := A3.trans N4
        go_wp2_with fail
        have h1 := awake_any w4 (tabs_aft hT A4)
        refine h1.mono ?_
        rintro e w5 ⟨rfl, N5⟩
        clear h1
        have A5 := A4.trans N5
        go_wp2
        go_ret
        exact ⟨by first | rfl | simp, A5⟩
      · have hneg := Lib.hid (ord_neg ls s t)
        have htr := Lib.hid (fun h k => ord_trans (ls := ls) (s := s) (t := t) (u := u) h k)
        have hz := Lib.hid (fun h => ord_zero (ls := ls) us ut h)
        have hrf := Lib.hid (ord_refl ls s)
        rcases ord_range ls s t with hx | hx | hx
        · have HX := Lib.hid hx
          have hne := bytes_ne (fun e : s = t => by rw [← e, hrf.out] at hx; omega)
          have hn2 : cmpL ls t s = 1 := by rw [hneg.out, hx]; try rfl
          have HN := Lib.hid hn2
          clear hx hneg hn2
          by_cases hy : 0 < cmpL ls t u
          · go_enter Tryd.func9, Tryd.ntmps9
            go_wp2_with fail
            have h1 := awake_any w hT
            refine h1.mono ?_
            rintro e w1 ⟨rfl, N1⟩
            clear h1
            have A1 := N1
            go_wp2_with fail
            have h1 := few_any A n c ls _ 3 3 [s, t, u] (w1.alloc (.cells #[.string s, .string t, .string u] 9)) (ha.aft (A1.alloc _)) (three_strs w1 s t u) (fun x hx => by simp at hx; rcases hx with rfl | rfl | rfl <;> assumption)
            rw [hf] at h1
            refine h1.mono ?_
            rintro e w2 ⟨rfl, N2⟩
            clear h1
            have A2 := (A1.alloc _).trans N2
            go_wp2_with fail
            have h1 := refUtf_any s hsz.1 w2
            rw [us] at h1
            refine h1.mono ?_
            rintro e w3 ⟨rfl, N3⟩
            clear h1
            have A3 := A2.trans N3
            go_wp2_with fail
            have h1 := refUtf_any t hsz.2 w3
            rw [ut] at h1
            refine h1.mono ?_
            rintro e w4 ⟨rfl, N4⟩
            clear h1
            have A4 := A3.trans N4
            go_wp2_with fail
            have h1 := compare_any A n c ls s t w4 (ha.aft A4) (tabs_aft hT A4)
            rw [HX.out] at h1
            refine h1.mono ?_
            rintro e w5 ⟨rfl, N5⟩
            clear h1
            have A5 := A4.trans N5
            go_wp2_with fail
            have h1 := compare_any A n c ls t u w5 (ha.aft A5) (tabs_aft hT A5)
            refine h1.mono ?_
            rintro e w6 ⟨rfl, N6⟩
            clear h1
            have A6 := A5.trans N6
            go_wp2_with fail
            have h1 := compare_any A n c ls t s w6 (ha.aft A6) (tabs_aft hT A6)
            rw [HN.out] at h1
            refine h1.mono ?_
            rintro e w7 ⟨rfl, N7⟩
            clear h1
            have A7 := A6.trans N7
            go_wp2
            go_ret
            exact ⟨by first | rfl | simp, A7⟩
          · have hzu : cmpL ls s u ≤ 0 := htr.out (by rw [HX.out]; omega) (by omega)
            go_enter Tryd.func9, Tryd.ntmps9
            go_wp2_with fail
            have h1 := awake_any w hT
            refine h1.mono ?_
            rintro e w1 ⟨rfl, N1⟩
            clear h1
            have A1 := N1
            go_wp2_with fail
            have h1 := few_any A n c ls _ 3 3 [s, t, u] (w1.alloc (.cells #[.string s, .string t, .string u] 9)) (ha.aft (A1.alloc _)) (three_strs w1 s t u) (fun x hx => by simp at hx; rcases hx with rfl | rfl | rfl <;> assumption)
            rw [hf] at h1
            refine h1.mono ?_
            rintro e w2 ⟨rfl, N2⟩
            clear h1
            have A2 := (A1.alloc _).trans N2
            go_wp2_with fail
            have h1 := refUtf_any s hsz.1 w2
            rw [us] at h1
            refine h1.mono ?_
            rintro e w3 ⟨rfl, N3⟩
            clear h1
            have A3 := A2.trans N3
            go_wp2_with fail
            have h1 := refUtf_any t hsz.2 w3
            rw [ut] at h1
            refine h1.mono ?_
            rintro e w4 ⟨rfl, N4⟩
            clear h1
            have A4 := A3.trans N4
            go_wp2_with fail
            have h1 := compare_any A n c ls s t w4 (ha.aft A4) (tabs_aft hT A4)
            rw [HX.out] at h1
            refine h1.mono ?_
            rintro e w5 ⟨rfl, N5⟩
            clear h1
            have A5 := A4.trans N5
            go_wp2_with fail
            have h1 := compare_any A n c ls t u w5 (ha.aft A5) (tabs_aft hT A5)
            refine h1.mono ?_
            rintro e w6 ⟨rfl, N6⟩
            clear h1
            have A6 := A5.trans N6
            go_wp2_with fail
            have h1 := compare_any A n c ls t s w6 (ha.aft A6) (tabs_aft hT A6)
            rw [HN.out] at h1
            refine h1.mono ?_
            rintro e w7 ⟨rfl, N7⟩
            clear h1
            have A7 := A6.trans N7
            go_wp2_with fail
            have h1 := compare_any A n c ls s u w7 (ha.aft A7) (tabs_aft hT A7)
            refine h1.mono ?_
            rintro e w8 ⟨rfl, N8⟩
            clear h1
            have A8 := A7.trans N8
            go_wp2
            go_ret
            exact ⟨by first | rfl | simp, A8⟩
        · have HX := Lib.hid hx
          obtain rfl := hz.out hx
          have HN := HX
          clear hx hneg
          by_cases hy : 0 < cmpL ls s u
          · go_enter Tryd.func9, Tryd.ntmps9
            go_wp2_with fail
            have h1 := awake_any w hT
            refine h1.mono ?_
            rintro e w1 ⟨rfl, N1⟩
            clear h1
            have A1 := N1
            go_wp2_with fail
            have h1 := few_any A n c ls _ 3 3 [s, s, u] (w1.alloc (.cells #[.string s, .string s, .string u] 9)) (ha.aft (A1.alloc _)) (three_strs w1 s s u) (fun x hx => by simp at hx; rcases hx with rfl | rfl | rfl <;> assumption)
            rw [hf] at h1
            refine h1.mono ?_
            rintro e w2 ⟨rfl, N2⟩
            clear h1
            have A2 := (A1.alloc _).trans N2
            go_wp2_with fail
            have h1 := refUtf_any s hsz.1 w2
            rw [us] at h1
            refine h1.mono ?_
            rintro e w3 ⟨rfl, N3⟩
            clear h1
            have A3 := A2.trans N3
            go_wp2_with fail
            have h1 := refUtf_any s hsz.1 w3
            rw [us] at h1
            refine h1.mono ?_
            rintro e w4 ⟨rfl, N4⟩
            clear h1
            have A4 := A3.trans N4
            go_wp2_with fail
            have h1 := compare_any A n c ls s s w4 (ha.aft A4) (tabs_aft hT A4)
            rw [HX.out] at h1
            refine h1.mono ?_
            rintro e w5 ⟨rfl, N5⟩
            clear h1
            have A5 := A4.trans N5
            go_wp2_with fail
            have h1 := compare_any A n c ls s u w5 (ha.aft A5) (tabs_aft hT A5)
            refine h1.mono ?_
            rintro e w6 ⟨rfl, N6⟩
            clear h1
            have A6 := A5.trans N6
            go_wp2_with fail
            have h1 := compare_any A n c ls s s w6 (ha.aft A6) (tabs_aft hT A6)
            rw [HN.out] at h1
            refine h1.mono ?_
            rintro e w7 ⟨rfl, N7⟩
            clear h1
            have A7 := A6.trans N7
            go_wp2
            go_ret
            exact ⟨by first | rfl | simp, A7⟩
          · have hzu : cmpL ls s u ≤ 0 := by omega
            go_enter Tryd.func9, Tryd.ntmps9
            go_wp2_with fail
            have h1 := awake_any w hT
            refine h1.mono ?_
            rintro e w1 ⟨rfl, N1⟩
            clear h1
            have A1 := N1
            go_wp2_with fail
            have h1 := few_any A n c ls _ 3 3 [s, s, u] (w1.alloc (.cells #[.string s, .string s, .string u] 9)) (ha.aft (A1.alloc _)) (three_strs w1 s s u) (fun x hx => by simp at hx; rcases hx with rfl | rfl | rfl <;> assumption)
            rw [hf] at h1
            refine h1.mono ?_
            rintro e w2 ⟨rfl, N2⟩
            clear h1
            have A2 := (A1.alloc _).trans N2
            go_wp2_with fail
            have h1 := refUtf_any s hsz.1 w2
            rw [us] at h1
            refine h1.mono ?_
            rintro e w3 ⟨rfl, N3⟩
            clear h1
            have A3 := A2.trans N3
            go_wp2_with fail
            have h1 := refUtf_any s hsz.1 w3
            rw [us] at h1
            refine h1.mono ?_
            rintro e w4 ⟨rfl, N4⟩
            clear h1
            have A4 := A3.trans N4
            go_wp2_with fail
            have h1 := compare_any A n c ls s s w4 (ha.aft A4) (tabs_aft hT A4)
            rw [HX.out] at h1
            refine h1.mono ?_
            rintro e w5 ⟨rfl, N5⟩
            clear h1
            have A5 := A4.trans N5
            go_wp2_with fail
            have h1 := compare_any A n c ls s u w5 (ha.aft A5) (tabs_aft hT A5)
            refine h1.mono ?_
            rintro e w6 ⟨rfl, N6⟩
            clear h1
            have A6 := A5.trans N6
            go_wp2_with fail
            have h1 := compare_any A n c ls s s w6 (ha.aft A6) (tabs_aft hT A6)
            rw [HN.out] at h1
            refine h1.mono ?_
            rintro e w7 ⟨rfl, N7⟩
            clear h1
            have A7 := A6.trans N7
            go_wp2_with fail
            have h1 := compare_any A n c ls s u w7 (ha.aft A7) (tabs_aft hT A7)
            refine h1.mono ?_
            rintro e w8 ⟨rfl, N8⟩
            clear h1
            have A8 := A7.trans N8
            go_wp2
            go_ret
            exact ⟨by first | rfl | simp, A8⟩
        · have HX := Lib.hid hx
          have hne := bytes_ne (fun e : s = t => by rw [← e, hrf.out] at hx; omega)
          have hn2 : cmpL ls t s = -1 := by rw [hneg.out, hx]; try rfl
          have HN := Lib.hid hn2
          clear hx hneg hn2
          go_enter Tryd.func9, Tryd.ntmps9
          go_wp2_with fail
          have h1 := awake_any w hT
          refine h1.mono ?_
          rintro e w1 ⟨rfl, N1⟩
          clear h1
          have A1 := N1
          go_wp2_with fail
          have h1 := few_any A n c ls _ 3 3 [s, t, u] (w1.alloc (.cells #[.string s, .string t, .string u] 9)) (ha.aft (A1.alloc _)) (three_strs w1 s t u) (fun x hx => by simp at hx; rcases hx with rfl | rfl | rfl <;> assumption)
          rw [hf] at h1
          refine h1.mono ?_
          rintro e w2 ⟨rfl, N2⟩
          clear h1
          have A2 := (A1.alloc _).trans N2
          go_wp2_with fail
          have h1 := refUtf_any s hsz.1 w2
          rw [us] at h1
          refine h1.mono ?_
          rintro e w3 ⟨rfl, N3⟩
          clear h1
          have A3 := A2.trans N3
          go_wp2_with fail
          have h1 := refUtf_any t hsz.2 w3
          rw [ut] at h1
          refine h1.mono ?_
          rintro e w4 ⟨rfl, N4⟩
          clear h1
          have A4 := A3.trans N4
          go_wp2_with fail
          have h1 := compare_any A n c ls s t w4 (ha.aft A4) (tabs_aft hT A4)
          rw [HX.out] at h1
          refine h1.mono ?_
          rintro e w5 ⟨rfl, N5⟩
          clear h1
          have A5 := A4.trans N5
          go_wp2_with fail
          have h1 := compare_any A n c ls t u w5 (ha.aft A5) (tabs_aft hT A5)
          refine h1.mono ?_
          rintro e w6 ⟨rfl, N6⟩
          clear h1
          have A6 := A5.trans N6
          go_wp2_with fail
          have h1 := compare_any A n c ls t s w6 (ha.aft A6) (tabs_aft hT A6)
          rw [HN.out] at h1
          refine h1.mono ?_
          rintro e w7 ⟨rfl, N7⟩
          clear h1
          have A7 := A6.trans N7
          go_wp2
          go_ret
          exact ⟨by first | rfl | simp, A7⟩

theorem walk (A : Option Addr) (n c : Nat) (ls : List Lt) (s t u : ByteArray) (w : World) (hT : Tabs w) (ha : Ll w A n c ls) (_ : c * 8 ≤ reachBytes) (zs : s.size ≤ maxLen) (zt : t.size ≤ maxLen) (zu : u.size ≤ maxLen) :
    Calls Tryd.prog 9 #[.slice A n c, .string s, .string t, .string u] w (BoolPost w true) := walk0 A n c ls s t u w hT ha zs zt zu

theorem own : ownKnob Tryd.prog.godebug = none := by kernel_rfl
theorem laidOut : laidOutB Tryd.prog = true := by kernel_rfl
theorem bytesA : Tryd.prog.bytesOf 31 = 8 := by kernel_rfl

set_option maxRecDepth 100000 in
theorem contract (H : Type) (enc : TypeId × Value → H) (W : World) (base : Nat) (args : Array Value) (ds gs : List (DataW H)) (before : List MemPlace)
    (hval : ∀ (j : Nat) t v, Tryd.f9.params[j]? = some t → args[j]? = some v → Value.okWide Tryd.prog W .any base t v)
    (hW : DataW.Whole enc Tryd.prog Tryd.f9.params.toList Rows.alphabetOrderSpec.vars false W args.toList ds gs before) (hsz0 : (DataW.weightsEach Tryd.prog (Tryd.f9.params.toList ++ Rows.alphabetOrderSpec.plain.varTypes Tryd.prog) (ds ++ gs)).all (· ≤ reachBytes) = true) (hL : laidMetH Tryd.prog listed W) :
    Calls Tryd.prog 9 args W fun e W' => ∃ v, e = .returned v ∧ Rows.alphabetOrderSpec.post enc Tryd.prog Tryd.f9 false true false false W args v W' := by
  have hW' := hW
  obtain ⟨p, q, hA0, hV, rfl, hfz, hnd⟩ := hW
  have hA : DataW.TrodAll enc Tryd.prog W 0 (fun _ => true) true Tryd.f9.params.toList args.toList ds p := hA0
  have hsz := hsz0
  rw [Tryd.params9] at hA hval hsz
  obtain ⟨v0, vs0, d0, ds0, p0, q0, hargs, rfl, rfl, h0, r0⟩ := trodAll_cons hA
  obtain ⟨v1, vs1, d1, ds1, p1, q1, rfl, rfl, rfl, h1, r1⟩ := trodAll_cons r0
  obtain ⟨v2, vs2, d2, ds2, p2, q2, rfl, rfl, rfl, h2, r2⟩ := trodAll_cons r1
  obtain ⟨v3, vs3, d3, ds3, p3, q3, rfl, rfl, rfl, h3, r3⟩ := trodAll_cons r2
  obtain ⟨rfl, rfl, rfl⟩ := trodAll_nil r3
  obtain rfl : args = #[v0, v1, v2, v3] := by cases args; simp_all
  obtain ⟨rfl, rfl⟩ := trodVars_none hV
  obtain ⟨a0, len0, cap0, rfl⟩ := okWide_slice Tryd.underlying22 (hval 0 22 v0 rfl rfl)
  have lt0 : ∀ x ∈ p0, x.block < W.heap.size := by obtain ⟨m, hm⟩ := h0; exact DataW.trod_lt m _ _ _ hm
  obtain ⟨xs0, s0, b0⟩ := letters_of h0 (Nat.le_refl _) (fun el sp e => by have := sized_slice hsz (j := 0) (t := 22) (e := 31) rfl (by rw [e]; rfl) Tryd.underlying22; rwa [bytesA] at this)
  obtain ⟨xs1, rfl, rfl, rfl, z1⟩ := open_string Tryd.underlying9 (hval 1 9 v1 rfl rfl) h1
  obtain ⟨xs2, rfl, rfl, rfl, z2⟩ := open_string Tryd.underlying9 (hval 2 9 v2 rfl rfl) h2
  obtain ⟨xs3, rfl, rfl, rfl, z3⟩ := open_string Tryd.underlying9 (hval 3 9 v3 rfl rfl) h3
  clear hA0
  refine (walk a0 len0 cap0 xs0 xs1 xs2 xs3 W (tabs_of hL) s0 b0 z1 z2 z3).mono fun e W' ⟨he, bel⟩ => ?_
  subst he
  exact ⟨_, rfl, _, _, _, [], _, [], hW', trodAll_mk1 (shut_bool Tryd.underlying4 _), (trodAll_cons_mk (Below.trod laidOut (by kernel_rfl) (of_decide_eq_true (by kernel_rfl)) h0 bel lt0) (trodAll_cons_mk (shut_string Tryd.underlying9 z1) (trodAll_cons_mk (shut_string Tryd.underlying9 z2) (trodAll_cons_mk (shut_string Tryd.underlying9 z3) trodAll_mk0)))), rfl, Below.frame bel _, fun h => by cases h⟩

theorem witness_row (os : Os) {H : Type} (enc : TypeId × Value → H) :
    (OpenSpec.ofChange Rows.alphabetOrderSpec).preRow enc Tryd.prog Tryd.f9 Rows.alphabetOrderRow.domain false Rows.alphabetOrderRow.laid ((laidWorld os).forCall (fun _ _ => 0) ⟨#[], #[.slice none 0 0, .string ⟨#[]⟩, .string ⟨#[]⟩, .string ⟨#[]⟩], []⟩).memory #[.slice none 0 0, .string ⟨#[]⟩, .string ⟨#[]⟩, .string ⟨#[]⟩] := by
  have hw : (DataW.whole enc Tryd.prog ((laidWorld os).forCall (fun _ _ => 0) ⟨#[], #[.slice none 0 0, .string ⟨#[]⟩, .string ⟨#[]⟩, .string ⟨#[]⟩], []⟩).memory Tryd.f9.params.toList Rows.alphabetOrderSpec.vars false (#[.slice none 0 0, .string ⟨#[]⟩, .string ⟨#[]⟩, .string ⟨#[]⟩] : Array Value).toList 8).map (fun x => (x.1, x.2.1)) =
      some ([.nil, .lit (.string []), .lit (.string []), .lit (.string [])], []) := by kernel_rfl
  obtain ⟨⟨x1, x2, x3⟩, hx, hx1⟩ := Option.map_eq_some_iff.1 hw
  simp only [Prod.mk.injEq] at hx1
  obtain ⟨rfl, rfl⟩ := hx1
  exact OpenSpec.preRow_of_cond 8 hx (by kernel_rfl) (fun k hk => by cases hk) (by kernel_rfl) (laid_met os _)

set_option maxRecDepth 100000 in
theorem lifted (os : Os) (started : os.Started) (H : Type) (enc : TypeId × Value → H) (F : Stop.Interp) :
    ReturnsInHanded {} Tryd.checked os 9 .any ((OpenSpec.ofChange Rows.alphabetOrderSpec).preRow enc Tryd.prog Tryd.f9 Rows.alphabetOrderRow.domain false Rows.alphabetOrderRow.laid) (((OpenSpec.ofChange Rows.alphabetOrderSpec).at F).post enc Tryd.prog Tryd.f9 false true false false) := by
  refine returnsInHanded_of_row (C := Tryd.checked) (s := (OpenSpec.ofChange Rows.alphabetOrderSpec)) own started (by kernel_rfl) Tryd.func9
    (witness_row_atRef (enc := enc) (C := Tryd.checked) false (laidWorld os) #[.slice none 0 0, .string ⟨#[]⟩, .string ⟨#[]⟩, .string ⟨#[]⟩] rfl (by kernel_rfl) (by kernel_rfl) (by kernel_rfl) (witness_row os enc)) ?_
  intro W base args ds gs before hval hW _ _ hsz hL _ _
  exact contract H enc W base args ds gs before hval hW hsz hL

theorem row : Rows.AlphabetOrderSaid :=
  OpenClaim.holds_of_cond 9 Tryd.f9 rfl rfl rfl rfl rfl rfl rfl ⟨rfl, rfl, rfl, rfl, rfl⟩ rfl rfl rfl rfl rfl (by kernel_rfl) Tryd.func9 (by kernel_rfl)
    (of_decide_eq_true (by kernel_rfl)) (by unfold Func.isWrapper; rw [if_neg (of_decide_eq_false (by kernel_rfl))]; exact ⟨rfl, rfl⟩)
    (fun os started H enc _ F0 => by rw [OpenClaim.pre_eq_preRow]; exact lifted os started H enc F0)

/-- No parameter wants a stand-in; the program's own looks are off. -/
theorem plain (f : FuncId) (fn : Func) (hf : Tryd.pinned.checked.prog.funcNamed "pentaglot/pentaglotlaw01.AlphabetOrder" = some f) (hfn : Tryd.pinned.checked.prog.funcs[f]? = some fn) :
    false = Tryd.pinned.checked.prog.looks [] ∧ ∀ (j : Nat) t, fn.params[j]? = some t → Tryd.pinned.checked.prog.wantsStandIn t = false := by
  obtain rfl : f = 9 := Option.some.inj ((show Tryd.prog.funcNamed "pentaglot/pentaglotlaw01.AlphabetOrder" = some 9 by kernel_rfl).symm.trans hf) |>.symm
  obtain rfl : fn = Tryd.f9 := (Option.some.inj (Tryd.func9.symm.trans hfn)).symm
  refine ⟨by kernel_rfl, fun j t ht => ?_⟩
  rw [Tryd.params9] at ht
  have hm : t = 22 ∨ t = 9 ∨ t = 9 ∨ t = 9 := by simpa using Array.mem_of_getElem? ht
  rcases hm with rfl | rfl | rfl | rfl
  · exact (show Tryd.prog.wantsStandIn 22 = false by kernel_rfl)
  · exact (show Tryd.prog.wantsStandIn 9 = false by kernel_rfl)
  · exact (show Tryd.prog.wantsStandIn 9 = false by kernel_rfl)
  · exact (show Tryd.prog.wantsStandIn 9 = false by kernel_rfl)

theorem proved : Rows.AlphabetOrderCardSaid :=
  Claim7.holds_tied_plain_at .later [] _ _ _ _ row (fun _ h => by cases h) (by kernel_rfl) (fun _ h => by cases h) alphabetOrder_row_tie rfl ⟨rfl, rfl⟩ (by kernel_rfl) rfl plain (by kernel_rfl)
#print axioms proved
end Go.Proofs.YthmehnigpnhnbaaDoor.lawAOrder
