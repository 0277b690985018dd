/-
  Heavy reports for each syllable whether it does not end in a vowel: the law SyllableHeavy returns true. Conditions: none.
-/
import Derived.Test.YtfjfgjncmliadaaDoorSylFrame
import Derived.Test.YtfjfgjncmliadaaDoorSylRef5
import Derived.Test.YtfjfgjncmliadaaDoorCards
import Derived.Test.YtfjfgjncmliadaaDoorTie
import Derived.Deep.DeepHandedRow
import Derived.Deep.DeepWitnessRowRef
import Derived.SevenTiedAt
import Derived.Deep.RegionHeld3
namespace Go.Proofs.YtfjfgjncmliadaaDoor.lawYHeavy
open Go.ChangeShapes Go.WideShapes Go.ChangeAt Go.RowKit
open Go.ChangeMaps (open_string shut_string)
open AlphPlain

set_option maxRecDepth 100000 in
set_option maxHeartbeats 1600000 in
theorem walk (A : Option Addr) (n c : Nat) (ls : List Lt) (B : Option Addr) (m d : Nat) (L R : Int) (os : List Mk) (s : ByteArray) (w : World) (hT : Tabs w) (ha : Ll w A n c ls) (_ : c * 8 ≤ reachBytes) (hb : Ons w B m d os) (_ : (Lit.int .i64 L).wf = true) (_ : (Lit.int .i64 R).wf = true) (zs : s.size ≤ maxLen) :
    Calls Tryd.prog 13 #[.slice A n c, pV B m d L R, .string s] w (BoolPost w true) := by
  have AL : Aft w (w.alloc (.cells #[.slice B m d, .int .i64 L, .int .i64 R] 24)) := (Aft.refl w).alloc _
  obtain ⟨t0, t1, t2⟩ := three_cells w (.slice B m d) (.int .i64 L) (.int .i64 R) 24
  cases hf : fewP n os s
  · go_enter Tryd.func13, Tryd.ntmps13
    go_wp2_with fail
    have h1 := awake_any _ (tabs_aft hT AL)
    refine h1.mono ?_
    rintro e w1 ⟨rfl, N1⟩
    clear h1
    have A1 := AL.trans N1
    have b0_1 := N1.cell t0
    have b1_1 := N1.cell t1
    have b2_1 := N1.cell t2
    go_wp2_with fail
    have h1 := few_any A n c B m d os L R s w1 (by have := ha.le; have := ha.cmax; omega) (hb.aft A1) zs
    rw [hf] at h1
    refine h1.mono ?_
    rintro e w2 ⟨rfl, N2⟩
    clear h1
    have A2 := A1.trans N2
    have b0_2 := N2.cell b0_1
    have b1_2 := N2.cell b1_1
    have b2_2 := N2.cell b2_1
    go_wp2_with fail
    have h1 := awake_any w2 (tabs_aft hT A2)
    refine h1.mono ?_
    rintro e w3 ⟨rfl, N3⟩
    clear h1
    have A3 := A2.trans N3
    go_wp2
    go_ret
    exact ⟨by first | rfl | simp, A3⟩
  · have hsz := (fewP_facts hf).2.2.1
    go_enter Tryd.func13, Tryd.ntmps13
    go_wp2_with fail
    have h1 := awake_any _ (tabs_aft hT AL)
    refine h1.mono ?_
    rintro e w1 ⟨rfl, N1⟩
    clear h1
    have A1 := AL.trans N1
    have b0_1 := N1.cell t0
    have b1_1 := N1.cell t1
    have b2_1 := N1.cell t2
    go_wp2_with fail
    have h1 := few_any A n c B m d os L R s w1 (by have := ha.le; have := ha.cmax; omega) (hb.aft A1) zs
    rw [hf] at h1
    refine h1.mono ?_
    rintro e w2 ⟨rfl, N2⟩
    clear h1
    have A2 := A1.trans N2
    have b0_2 := N2.cell b0_1
    have b1_2 := N2.cell b1_1
    have b2_2 := N2.cell b2_1
    have H1 := heavy_any A n c ls B m d os L R s w2 (tabs_aft hT A2) (ha.aft A2) (hb.aft A2) (by omega)
    have H2 := fun w0 (a : Aft w2 w0) => refHeavy_any A n c ls B m d os L R s w0 (ha.aft (A2.trans a)) (hb.aft (A2.trans a)) hsz
    generalize (if okD ls (masks os) L R s then heavyB ls (runesOf s) (sylP ls (masks os) (runesOf s)) else []) = l0 at *
    generalize errOf (okD ls (masks os) L R s) = er at *
    clear ha hb hf hT t0 t1 t2 b0_1 b1_1 b2_1
    go_wp2_with fail
    refine H1.mono ?_
    rintro e w3 ⟨⟨X1, n1, k1, rfl, r1⟩, N3⟩
    clear H1
    have HR1 := Lib.hid r1
    clear r1
    have A3 := A2.trans N3
    have b0_3 := N3.cell b0_2
    have b1_3 := N3.cell b1_2
    have b2_3 := N3.cell b2_2
    go_wp2_with fail
    refine (H2 w3 N3).mono ?_
    rintro e w4 ⟨⟨X2, n2, k2, rfl, r2⟩, N4⟩
    clear H2
    have HR2 := Lib.hid r2
    clear r2
    have A4 := A3.trans N4
    obtain rfl : n1 = n2 := by rw [← HR1.out.len]; exact HR2.out.len
    have hnc := HR1.out.le
    have hcm := HR1.out.cmax
    have hnd := HR2.out.le
    go_wp2
    go_loopw [48] (fun i wr => ∃ k : Nat, k ≤ n1 ∧ i = .int .i64 (k : Nat) ∧ Aft w4 wr) (fun i _ => n1 - (intOf i).toNat)
    case atStart => exact ⟨0, Nat.zero_le _, rfl, Aft.refl _⟩
    case round =>
      obtain ⟨k, hk, rfl, haf⟩ := hrel
      by_cases hlt : k < n1
      · obtain ⟨b1, off1, x, rfl, hf, h1⟩ := HR1.out.at_ hlt
        obtain ⟨b2, off2, x2, rfl, hf2, h2⟩ := HR2.out.at_ hlt
        obtain rfl : x = x2 := by rw [hf] at hf2; exact Option.some.inj hf2
        have c1 := (N4.trans haf).cell h1
        have c2 := haf.cell h2
        clear hf hf2 h1 h2
        have hki : (k : Int) < (n1 : Int) := by omega
        have hwk : IntKind.i64.wrap (k : Int) = (k : Int) := wrap_small _ (by omega) (by omega)
        go_wp2
        go_quiet (fail)
        go_wp2
        go_roundw
        case rel => exact ⟨k + 1, by omega, by go_num, haf.drewN _⟩
        case measure => simp [intOf]; omega
      · obtain rfl : k = n1 := by omega
        go_wp2
        go_ret
        exact ⟨rfl, A4.trans haf⟩

theorem own : ownKnob Tryd.prog.godebug = none := by kernel_rfl
theorem laidOut : laidOutB Tryd.prog = true := by kernel_rfl
theorem bytesA : Tryd.prog.bytesOf 51 = 8 := by kernel_rfl

set_option maxRecDepth 100000 in
theorem contract (H : Type) (enc : TypeId × Value → H) (W : World) (base : Nat) (args : Array Value) (ds gs : List (DataW H)) (before : List MemPlace)
    (hval : ∀ (j : Nat) t v, Tryd.f13.params[j]? = some t → args[j]? = some v → Value.okWide Tryd.prog W .any base t v)
    (hW : DataW.Whole enc Tryd.prog Tryd.f13.params.toList Rows.syllableHeavySpec.vars false W args.toList ds gs before) (hsz0 : (DataW.weightsEach Tryd.prog (Tryd.f13.params.toList ++ Rows.syllableHeavySpec.plain.varTypes Tryd.prog) (ds ++ gs)).all (· ≤ reachBytes) = true) (hL : laidMetH Tryd.prog listed W) :
    Calls Tryd.prog 13 args W fun e W' => ∃ v, e = .returned v ∧ Rows.syllableHeavySpec.post enc Tryd.prog Tryd.f13 false true false false W args v W' := by
  have hW' := hW
  obtain ⟨p, q, hA0, hV, rfl, hfz, hnd⟩ := hW
  have hA : DataW.TrodAll enc Tryd.prog W 0 (fun _ => true) true Tryd.f13.params.toList args.toList ds p := hA0
  have hsz := hsz0
  rw [Tryd.params13] at hA hval hsz
  obtain ⟨v0, vs0, d0, ds0, p0, q0, hargs, rfl, rfl, h0, r0⟩ := trodAll_cons hA
  obtain ⟨v1, vs1, d1, ds1, p1, q1, rfl, rfl, rfl, h1, r1⟩ := trodAll_cons r0
  obtain ⟨v2, vs2, d2, ds2, p2, q2, rfl, rfl, rfl, h2, r2⟩ := trodAll_cons r1
  obtain ⟨rfl, rfl, rfl⟩ := trodAll_nil r2
  obtain rfl : args = #[v0, v1, v2] := by cases args; simp_all
  obtain ⟨rfl, rfl⟩ := trodVars_none hV
  obtain ⟨a0, len0, cap0, rfl⟩ := okWide_slice Tryd.underlying28 (hval 0 28 v0 rfl rfl)
  have lt0 : ∀ x ∈ p0, x.block < W.heap.size := by obtain ⟨m, hm⟩ := h0; exact DataW.trod_lt m _ _ _ hm
  obtain ⟨xs0, s0, b0⟩ := letters_of h0 (Nat.le_refl _) (fun el sp e => by have := sized_slice hsz (j := 0) (t := 28) (e := 51) rfl (by rw [e]; rfl) Tryd.underlying28; rwa [bytesA] at this)
  have lt1 : ∀ x ∈ p1, x.block < W.heap.size := by obtain ⟨m, hm⟩ := h1; exact DataW.trod_lt m _ _ _ hm
  obtain ⟨a1, len1, cap1, L1, R1, xs1, rfl, s1, zl1, zr1⟩ := pho_of (okWide_struct Tryd.underlying24 (hval 1 24 v1 rfl rfl)) h1
  obtain ⟨xs2, rfl, rfl, rfl, z2⟩ := open_string Tryd.underlying9 (hval 2 9 v2 rfl rfl) h2
  clear hA0
  refine (walk a0 len0 cap0 xs0 a1 len1 cap1 L1 R1 xs1 xs2 W (tabs_of hL) s0 b0 s1 zl1 zr1 z2).mono fun e W' ⟨he, bel⟩ => ?_
  subst he
  exact ⟨_, rfl, _, _, _, [], _, [], hW', trodAll_mk1 (shut_bool Tryd.underlying4 _), (trodAll_cons_mk (Below.trod laidOut (by kernel_rfl) (of_decide_eq_true (by kernel_rfl)) h0 bel lt0) (trodAll_cons_mk (Below.trod laidOut (by kernel_rfl) (of_decide_eq_true (by kernel_rfl)) h1 bel lt1) (trodAll_cons_mk (shut_string Tryd.underlying9 z2) trodAll_mk0))), rfl, Below.frame bel _, fun h => by cases h⟩

theorem witness_row (os : Os) {H : Type} (enc : TypeId × Value → H) :
    (OpenSpec.ofChange Rows.syllableHeavySpec).preRow enc Tryd.prog Tryd.f13 Rows.syllableHeavyRow.domain false Rows.syllableHeavyRow.laid ((laidWorld os).forCall (fun _ _ => 0) ⟨#[], #[.slice none 0 0, .agg #[.slice none 0 0, .int .i64 0, .int .i64 0], .string ⟨#[]⟩], []⟩).memory #[.slice none 0 0, .agg #[.slice none 0 0, .int .i64 0, .int .i64 0], .string ⟨#[]⟩] := by
  have hw : (DataW.whole enc Tryd.prog ((laidWorld os).forCall (fun _ _ => 0) ⟨#[], #[.slice none 0 0, .agg #[.slice none 0 0, .int .i64 0, .int .i64 0], .string ⟨#[]⟩], []⟩).memory Tryd.f13.params.toList Rows.syllableHeavySpec.vars false (#[.slice none 0 0, .agg #[.slice none 0 0, .int .i64 0, .int .i64 0], .string ⟨#[]⟩] : Array Value).toList 8).map (fun x => (x.1, x.2.1)) =
      some ([.nil, .agg [.nil, .lit (.int .i64 0), .lit (.int .i64 0)], .lit (.string [])], []) := by kernel_rfl
  obtain ⟨⟨x1, x2, x3⟩, hx, hx1⟩ := Option.map_eq_some_iff.1 hw
  simp only [Prod.mk.injEq] at hx1
  obtain ⟨rfl, rfl⟩ := hx1
  exact OpenSpec.preRow_of_cond 8 hx (by kernel_rfl) (fun k hk => by cases hk) (by kernel_rfl) (laid_met os _)

set_option maxRecDepth 100000 in
theorem lifted (os : Os) (started : os.Started) (H : Type) (enc : TypeId × Value → H) (F : Stop.Interp) :
    ReturnsInHanded {} Tryd.checked os 13 .any ((OpenSpec.ofChange Rows.syllableHeavySpec).preRow enc Tryd.prog Tryd.f13 Rows.syllableHeavyRow.domain false Rows.syllableHeavyRow.laid) (((OpenSpec.ofChange Rows.syllableHeavySpec).at F).post enc Tryd.prog Tryd.f13 false true false false) := by
  refine returnsInHanded_of_row (C := Tryd.checked) (s := (OpenSpec.ofChange Rows.syllableHeavySpec)) own started (by kernel_rfl) Tryd.func13
    (witness_row_atRef (enc := enc) (C := Tryd.checked) false (laidWorld os) #[.slice none 0 0, .agg #[.slice none 0 0, .int .i64 0, .int .i64 0], .string ⟨#[]⟩] rfl (by kernel_rfl) (by kernel_rfl) (by kernel_rfl) (witness_row os enc)) ?_
  intro W base args ds gs before hval hW _ _ hsz hL _ _
  exact contract H enc W base args ds gs before hval hW hsz hL

theorem row : Rows.SyllableHeavySaid :=
  OpenClaim.holds_of_cond 13 Tryd.f13 rfl rfl rfl rfl rfl rfl rfl ⟨rfl, rfl, rfl, rfl, rfl⟩ rfl rfl rfl rfl rfl (by kernel_rfl) Tryd.func13 (by kernel_rfl)
    (of_decide_eq_true (by kernel_rfl)) (by unfold Func.isWrapper; rw [if_neg (of_decide_eq_false (by kernel_rfl))]; exact ⟨rfl, rfl⟩)
    (fun os started H enc _ F0 => by rw [OpenClaim.pre_eq_preRow]; exact lifted os started H enc F0)

/-- No parameter wants a stand-in; the program's own looks are off. -/
theorem plain (f : FuncId) (fn : Func) (hf : Tryd.pinned.checked.prog.funcNamed "pentaglot/pentaglotlaw13.SyllableHeavy" = some f) (hfn : Tryd.pinned.checked.prog.funcs[f]? = some fn) :
    false = Tryd.pinned.checked.prog.looks [] ∧ ∀ (j : Nat) t, fn.params[j]? = some t → Tryd.pinned.checked.prog.wantsStandIn t = false := by
  obtain rfl : f = 13 := Option.some.inj ((show Tryd.prog.funcNamed "pentaglot/pentaglotlaw13.SyllableHeavy" = some 13 by kernel_rfl).symm.trans hf) |>.symm
  obtain rfl : fn = Tryd.f13 := (Option.some.inj (Tryd.func13.symm.trans hfn)).symm
  refine ⟨by kernel_rfl, fun j t ht => ?_⟩
  rw [Tryd.params13] at ht
  have hm : t = 28 ∨ t = 24 ∨ t = 9 := by simpa using Array.mem_of_getElem? ht
  rcases hm with rfl | rfl | rfl
  · exact (show Tryd.prog.wantsStandIn 28 = false by kernel_rfl)
  · exact (show Tryd.prog.wantsStandIn 24 = false by kernel_rfl)
  · exact (show Tryd.prog.wantsStandIn 9 = false by kernel_rfl)

theorem proved : Rows.SyllableHeavyCardSaid :=
  Claim7.holds_tied_plain_at .later [] _ _ _ _ row (fun _ h => by cases h) (by kernel_rfl) (fun _ h => by cases h) syllableHeavy_row_tie rfl ⟨rfl, rfl⟩ (by kernel_rfl) rfl plain (by kernel_rfl)
#print axioms proved
end Go.Proofs.YtfjfgjncmliadaaDoor.lawYHeavy
