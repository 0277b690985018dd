/-
  LexiconNarrows: selecting by two lists of features one after the other is the same as selecting by both at once: the law returns true. Conditions: none (every list of lexemes and every two lists of features, of any size that an argument can have).
-/
import Derived.Test.YthoppaemlandaaaDoorLexAwakeW
import Derived.Test.YthoppaemlandaaaDoorLexFrame
import Derived.Test.YthoppaemlandaaaDoorLexFind
import Derived.Test.YthoppaemlandaaaDoorLexSame
import Derived.Test.YthoppaemlandaaaDoorLexWith
import Derived.Test.YthoppaemlandaaaDoorCards
import Derived.Test.YthoppaemlandaaaDoorTie
import Derived.Deep.DeepWitnessRowRef
import Derived.Deep.DeepHandedRow
import Derived.SevenTiedAt
namespace Go.Proofs.YthoppaemlandaaaDoor.lawNarrows
open Go.ChangeShapes Go.WideShapes Go.ChangeAt Go.RowKit
open Go.ChangeMaps (open_string shut_string)
open FeatPlain

theorem filter_say (ys : List Lx) (gs : List Ft) : (ys.filter fun x => gs.all (inF x.fs)).map Lx.say = (ys.map Lx.say).filter fun t => gs.all (inF t.2.2.2.2) := by
  rw [List.filter_map]
  rfl
theorem both_say (xs ys : List Lx) (fs gs : List Ft) (h : ys.map Lx.say = (xs.filter fun x => fs.all (inF x.fs)).map Lx.say) : (ys.filter fun x => gs.all (inF x.fs)).map Lx.say = (xs.filter fun x => (fs ++ gs).all (inF x.fs)).map Lx.say := by
  rw [filter_say, h, filter_say, filter_say, List.filter_filter]
  congr 1
  funext t
  rw [List.all_append, Bool.and_comm]
theorem say_back {w : World} {A : Option Addr} {n c : Nat} {xs ys : List Lx} {p : Lx → Bool} (ha : Ls w A n c xs) (hx : ∀ x ∈ xs, Sized x.fs ∧ x.fn ≤ 4294967296) (h : ys.map Lx.say = (xs.filter p).map Lx.say) {w' : World} (hy : ∀ y ∈ ys, Lc w' y) : ∀ y ∈ ys, Sized y.fs ∧ y.fn ≤ 4294967296 := by
  intro y hm
  have h1 : y.say ∈ (xs.filter p).map Lx.say := by rw [← h]; exact List.mem_map.2 ⟨y, hm, rfl⟩
  obtain ⟨x, hxm, e⟩ := List.mem_map.1 h1
  have hxx := (List.mem_filter.1 hxm).1
  have e' : x.fs = y.fs := congrArg (fun t : Lxp => t.2.2.2.2) e
  refine ⟨by rw [← e']; exact (hx x hxx).1, ?_⟩
  have l1 := (hy y hm).len
  have l2 := (ha.lw x hxx).fts.len
  rw [← e'] at l1
  have := (hx x hxx).2
  omega

set_option maxRecDepth 100000 in
set_option maxHeartbeats 1600000 in
theorem walk (A : Option Addr) (n c : Nat) (xs : List Lx) (F : Option Addr) (m d : Nat) (fs : List Ft) (G : Option Addr) (k e : Nat) (gs : List Ft) (w : World) (hM : Mx w) (ha : Ls w A n c xs) (hok : Lok xs) (hb : Sl w F m d fs) (hz : Sized fs) (_ : d * 32 ≤ reachBytes) (hg : Sl w G k e gs) (hy : Sized gs) (_ : e * 32 ≤ reachBytes) :
    Calls Tryd.prog 6 #[.slice A n c, .slice F m d, .slice G k e] w (BoolPost w true) := by
  have hfew := fun W (k : Aft w W) => few_any A n c xs W (ha.aft k)
  have hmd := hb.le
  have hke := hg.le
  cases hf : fewB xs
  · rw [hf] at hfew
    have HF := Lib.hid hfew
    clear hfew hf
    go_enter Tryd.func6, Tryd.ntmps6
    go_wp2_with fail
    refine (awakeL_any w hM).mono ?_
    rintro e wA ⟨rfl, AA⟩
    go_wp2_with fail
    refine (HF.out _ AA).mono ?_
    rintro e wF ⟨rfl, AF⟩
    have AO := AA.trans AF
    clear HF
    go_wp2_with fail
    refine (awakeL_any _ (hM.aft AO)).mono ?_
    rintro e wO ⟨rfl, AP⟩
    go_wp2
    go_ret
    exact ⟨rfl, AO.trans AP⟩
  · rw [hf] at hfew
    have HF := Lib.hid hfew
    have hx3 : xs.length ≤ 300 := by
      simp only [fewB, Bool.and_eq_true, decide_eq_true_eq] at hf
      exact hf.2
    have hfx : ∀ x ∈ xs, Sized x.fs ∧ x.fn ≤ 4294967296 := fun x hx => by
      simp only [fewB, Bool.and_eq_true, List.all_eq_true] at hf
      have := hf.1 x hx
      simp only [shortB, Bool.and_eq_true, decide_eq_true_eq] at this
      exact ⟨hok.sz x hx, by omega⟩
    have hn3 : n ≤ 300 := by rw [← ha.len]; exact hx3
    clear hfew hf
    by_cases h20 : m ≤ 20
    · have b20 : ¬ (20 : Int) < (m : Int) := by omega
      by_cases g20 : k ≤ 20
      · have c20 : ¬ (20 : Int) < (k : Int) := by omega
        obtain ⟨i0, hi, hz0, hz1, hz2⟩ := info_parts Tryd.infoF
        have hnf : F = none → m = 0 ∧ d = 0 := fun q => by have := hb.nl q; omega
        have hng : G = none → k = 0 ∧ e = 0 := fun q => by have := hg.nl q; omega
        have lf := Lib.hid hb.len
        have lg := Lib.hid hg.len
        go_enter Tryd.func6, Tryd.ntmps6
        go_wp2_with fail
        refine (awakeL_any w hM).mono ?_
        rintro e wA ⟨rfl, AA⟩
        go_wp2_with fail
        refine (HF.out _ AA).mono ?_
        rintro e wF ⟨rfl, AF⟩
        have A0 := AA.trans AF
        clear HF
        have own0 : (wF.alloc (.cells #[] 57)).ownsRow wF.heap.size 57 2 (.slice (some ⟨wF.heap.size, 0, none⟩) 0 0) 0 [] := World.ownsRow_lit wF #[] 0 (Nat.le_refl _) (by unfold maxLen; omega) rfl
        have OWN0 := Lib.hid own0
        have AL := (Aft.refl wF).alloc (.cells #[] 57)
        clear own0
        go_wp2_with (first
          | (at_builtin; refine wpList_append_any rfl (.tmp 26) (.tmp 27) 25 rfl wF.heap.size 57 i0 _ 2 32 Tryd.underlying25 hi hz0 hz1 hz2 rfl (by decide) _ 0 _ rfl OWN0.out F m d (flat fs) rfl (by rw [flat_length, lf.out]) hnf (hb.aft (A0.trans AL)).flatCells (flat_one _) (by unfold maxLen; omega) (by omega) (by simp) ?_; intro v1 w1 own1 grow1; have A1 : Aft wF w1 := AL.grown grow1 (fun r hr => (OWN0.out.lt r hr).1))
          | (at_builtin; refine wpList_append_any rfl (.tmp 28) (.tmp 29) 25 rfl wF.heap.size 57 i0 _ 2 32 Tryd.underlying25 hi hz0 hz1 hz2 rfl (by decide) _ (0 + m) _ rfl own1 G k e (flat gs) rfl (by rw [flat_length, lg.out]) hng (hg.aft (A0.trans A1)).flatCells (flat_one _) (by unfold maxLen; omega) (by omega) A1.size ?_; intro v2 w2 own2 grow2; have A2 : Aft wF w2 := A1.grown grow2 (fun r hr => (own1.lt r hr).1); clear own1 grow1 grow2))
        have own2' : w2.ownsRow wF.heap.size 57 2 v2 (0 + m + k) (flat (fs ++ gs)) := by rw [flat_append]; simpa using own2
        obtain ⟨q, hq⟩ : ∃ q, q = 0 + m + k := ⟨_, rfl⟩
        have hq40 : q ≤ 40 := by omega
        rw [← hq] at own2'
        obtain ⟨bA, bc, rfl, hbo⟩ := Sl.of_row own2' (by rw [List.length_append, lf.out, lg.out, hq]; omega) (by omega)
        clear hq
        have HBO := Lib.hid hbo
        have A02 := A0.trans A2
        have H3 := Lib.hid (With_any A n c xs F m d fs w2 (ha.aft A02) hok.fn hfx (by omega) (hb.aft A02) hz (by omega))
        clear own2 own2' hbo
        go_wp2_with fail
        refine H3.out.mono ?_
        rintro e1 w3 ⟨⟨B1, n1, c1, ys, rfl, y1, l1, z1⟩, A3⟩
        have A03 := A02.trans A3
        have hn1 : n1 ≤ 300 := by
          rw [← y1.len, ← List.length_map (f := Lx.say), z1, List.length_map]
          exact Nat.le_trans (List.length_filter_le _ _) hx3
        have H4 := Lib.hid (With_any B1 n1 c1 ys G k e gs w3 y1 (fun y hm => (l1 y hm).max) (say_back ha hfx z1 l1) (by omega) (hg.aft A03) hy (by omega))
        have Z1 := Lib.hid z1
        clear H3 y1 l1 z1
        go_wp2_with fail
        refine H4.out.mono ?_
        rintro e1 w4 ⟨⟨B2, n2, c2, zs, rfl, y2, _, z2⟩, A4⟩
        have A04 := A03.trans A4
        have H5 := Lib.hid (With_any A n c xs bA q bc (fs ++ gs) w4 (ha.aft A04) hok.fn hfx (by omega) (HBO.out.aft (A3.trans A4)) (fun f hm => by rcases List.mem_append.1 hm with h | h; exact hz f h; exact hy f h) (by omega))
        have Y2 := Lib.hid y2
        have Z2 := Lib.hid z2
        clear H4 y2 z2
        go_wp2_with fail
        refine H5.out.mono ?_
        rintro e1 w5 ⟨⟨B3, n3, c3, ts, rfl, y3, _, z3⟩, A5⟩
        have h6 := sameAllL_any B2 n2 c2 zs B3 n3 c3 ts w5 (Y2.out.aft A5) y3
        rw [show decide (zs.map Lx.say = ts.map Lx.say) = true from decide_eq_true (by rw [Z2.out, z3]; exact both_say xs ys fs gs Z1.out)] at h6
        have H6 := Lib.hid h6
        have A05 := A04.trans A5
        clear H5 h6 y3 z3 Y2 Z2 Z1
        go_wp2_with fail
        refine H6.out.mono ?_
        rintro e1 w6 ⟨rfl, A6⟩
        go_wp2
        go_ret
        exact ⟨rfl, A05.trans A6⟩
      · have c20 : (20 : Int) < (k : Int) := by omega
        go_enter Tryd.func6, Tryd.ntmps6
        go_wp2_with fail
        refine (awakeL_any w hM).mono ?_
        rintro e wA ⟨rfl, AA⟩
        go_wp2_with fail
        refine (HF.out _ AA).mono ?_
        rintro e wF ⟨rfl, AF⟩
        have AO := AA.trans AF
        clear HF
        go_wp2_with fail
        refine (awakeL_any _ (hM.aft AO)).mono ?_
        rintro e wO ⟨rfl, AP⟩
        go_wp2
        go_ret
        exact ⟨rfl, AO.trans AP⟩
    · have b20 : (20 : Int) < (m : Int) := by omega
      go_enter Tryd.func6, Tryd.ntmps6
      go_wp2_with fail
      refine (awakeL_any w hM).mono ?_
      rintro e wA ⟨rfl, AA⟩
      go_wp2_with fail
      refine (HF.out _ AA).mono ?_
      rintro e wF ⟨rfl, AF⟩
      have AO := AA.trans AF
      clear HF
      go_wp2_with fail
      refine (awakeL_any _ (hM.aft AO)).mono ?_
      rintro e wO ⟨rfl, AP⟩
      go_wp2
      go_ret
      exact ⟨rfl, AO.trans AP⟩

theorem own : ownKnob Tryd.prog.godebug = none := by kernel_rfl
theorem laidOut : laidOutB Tryd.prog = true := by kernel_rfl
theorem bytesF : Tryd.prog.bytesOf 57 = 32 := by kernel_rfl

set_option maxRecDepth 100000 in
theorem contract (H : Type) (enc : TypeId × Value → H) (W : World) (base : Nat) (args : Array Value) (ds gs : List (DataW H)) (before : List MemPlace)
    (hval : ∀ (j : Nat) t v, Tryd.f6.params[j]? = some t → args[j]? = some v → Value.okWide Tryd.prog W .any base t v)
    (hW : DataW.Whole enc Tryd.prog Tryd.f6.params.toList Rows.lexiconNarrowsSpec.vars false W args.toList ds gs before) (hsz0 : (DataW.weightsEach Tryd.prog (Tryd.f6.params.toList ++ Rows.lexiconNarrowsSpec.plain.varTypes Tryd.prog) (ds ++ gs)).all (· ≤ reachBytes) = true) (hSh : W.ShapedOpen Tryd.prog) :
    Calls Tryd.prog 6 args W fun e W' => ∃ v, e = .returned v ∧ Rows.lexiconNarrowsSpec.post enc Tryd.prog Tryd.f6 false true false false W args v W' := by
  have hW' := hW
  obtain ⟨p, q, hA0, hV, rfl, hfz, hnd⟩ := hW
  have hA : DataW.TrodAll enc Tryd.prog W 0 (fun _ => true) true Tryd.f6.params.toList args.toList ds p := hA0
  have hsz := hsz0
  rw [Tryd.params6] at hA hval hsz
  obtain ⟨v0, vs0, d0, ds0, p0, q0, hargs, rfl, rfl, h0, r0⟩ := trodAll_cons hA
  obtain ⟨v1, vs1, d1, ds1, p1, q1, rfl, rfl, rfl, h1, r1⟩ := trodAll_cons r0
  obtain ⟨v2, vs2, d2, ds2, p2, q2, rfl, rfl, rfl, h2, r2⟩ := trodAll_cons r1
  obtain ⟨rfl, rfl, rfl⟩ := trodAll_nil r2
  obtain rfl : args = #[v0, v1, v2] := by cases args; simp_all
  obtain ⟨rfl, rfl⟩ := trodVars_none hV
  obtain ⟨a0, len0, cap0, rfl⟩ := okWide_slice Tryd.underlying22 (hval 0 22 v0 rfl rfl)
  have lt0 : ∀ x ∈ p0, x.block < W.heap.size := by obtain ⟨m, hm⟩ := h0; exact DataW.trod_lt m _ _ _ hm
  obtain ⟨xs0, s0, z0⟩ := lexs_of h0 (fun x hx => by simpa using List.all_eq_true.1 hsz x (DataW.weights_mem_each (j := 0) (t := 22) rfl rfl x hx))
  obtain ⟨a1, len1, cap1, rfl⟩ := okWide_slice Tryd.underlying25 (hval 1 25 v1 rfl rfl)
  have lt1 : ∀ x ∈ p1, x.block < W.heap.size := by obtain ⟨m, hm⟩ := h1; exact DataW.trod_lt m _ _ _ hm
  obtain ⟨xs1, s1, z1, b1⟩ := feats_of h1 (Nat.le_refl _) (fun el sp e => by have := sized_slice hsz (j := 1) (t := 25) (e := 57) rfl (by rw [e]; rfl) Tryd.underlying25; rwa [bytesF] at this)
  obtain ⟨a2, len2, cap2, rfl⟩ := okWide_slice Tryd.underlying25 (hval 2 25 v2 rfl rfl)
  have lt2 : ∀ x ∈ p2, x.block < W.heap.size := by obtain ⟨m, hm⟩ := h2; exact DataW.trod_lt m _ _ _ hm
  obtain ⟨xs2, s2, z2, b2⟩ := feats_of h2 (Nat.le_refl _) (fun el sp e => by have := sized_slice hsz (j := 2) (t := 25) (e := 57) rfl (by rw [e]; rfl) Tryd.underlying25; rwa [bytesF] at this)
  clear hA0
  refine (walk a0 len0 cap0 xs0 a1 len1 cap1 xs1 a2 len2 cap2 xs2 W (mx_of hSh) s0 z0 s1 z1 b1 s2 z2 b2).mono fun e W' ⟨he, bel⟩ => ?_
  subst he
  exact ⟨_, rfl, _, _, _, [], _, [], hW', trodAll_mk1 (shut_bool Tryd.underlying4 _), (trodAll_cons_mk (Below.trod laidOut (by kernel_rfl) (of_decide_eq_true (by kernel_rfl)) h0 bel lt0) (trodAll_cons_mk (Below.trod laidOut (by kernel_rfl) (of_decide_eq_true (by kernel_rfl)) h1 bel lt1) (trodAll_cons_mk (Below.trod laidOut (by kernel_rfl) (of_decide_eq_true (by kernel_rfl)) h2 bel lt2) trodAll_mk0))), rfl, Below.frame bel _, fun h => by cases h⟩

theorem witness_row (os : Os) {H : Type} (enc : TypeId × Value → H) :
    (OpenSpec.ofChange Rows.lexiconNarrowsSpec).preRow enc Tryd.prog Tryd.f6 Rows.lexiconNarrowsRow.domain false Rows.lexiconNarrowsRow.laid ((laidWorld os).forCall (fun _ _ => 0) ⟨#[], #[.slice none 0 0, .slice none 0 0, .slice none 0 0], []⟩).memory #[.slice none 0 0, .slice none 0 0, .slice none 0 0] := by
  have hw : (DataW.whole enc Tryd.prog ((laidWorld os).forCall (fun _ _ => 0) ⟨#[], #[.slice none 0 0, .slice none 0 0, .slice none 0 0], []⟩).memory Tryd.f6.params.toList Rows.lexiconNarrowsSpec.vars false (#[.slice none 0 0, .slice none 0 0, .slice none 0 0] : Array Value).toList 8).map (fun x => (x.1, x.2.1)) =
      some ([.nil, .nil, .nil], []) := by kernel_rfl
  obtain ⟨⟨x1, x2, x3⟩, hx, hx1⟩ := Option.map_eq_some_iff.1 hw
  simp only [Prod.mk.injEq] at hx1
  obtain ⟨rfl, rfl⟩ := hx1
  exact OpenSpec.preRow_of_cond 8 hx (by kernel_rfl) (fun k hk => by cases hk) (by kernel_rfl) (laid_met os _)

set_option maxRecDepth 100000 in
theorem lifted (os : Os) (started : os.Started) (H : Type) (enc : TypeId × Value → H) (F : Stop.Interp) :
    ReturnsInHanded {} Tryd.checked os 6 .any ((OpenSpec.ofChange Rows.lexiconNarrowsSpec).preRow enc Tryd.prog Tryd.f6 Rows.lexiconNarrowsRow.domain false Rows.lexiconNarrowsRow.laid) (((OpenSpec.ofChange Rows.lexiconNarrowsSpec).at F).post enc Tryd.prog Tryd.f6 false true false false) := by
  refine returnsInHanded_of_row (C := Tryd.checked) (s := (OpenSpec.ofChange Rows.lexiconNarrowsSpec)) own started (by kernel_rfl) Tryd.func6
    (witness_row_atRef (enc := enc) (C := Tryd.checked) false (laidWorld os) #[.slice none 0 0, .slice none 0 0, .slice none 0 0] rfl (by kernel_rfl) (by kernel_rfl) (by kernel_rfl) (witness_row os enc)) ?_
  intro W base args ds gs before hval hW _ _ hsz _ hSh _
  exact contract H enc W base args ds gs before hval hW hsz hSh

theorem row : Rows.LexiconNarrowsSaid :=
  OpenClaim.holds_of_cond 6 Tryd.f6 rfl rfl rfl rfl rfl rfl rfl ⟨rfl, rfl, rfl, rfl, rfl⟩ rfl rfl rfl rfl rfl (by kernel_rfl) Tryd.func6 (by kernel_rfl)
    (of_decide_eq_true (by kernel_rfl)) (by unfold Func.isWrapper; rw [if_neg (of_decide_eq_false (by kernel_rfl))]; exact ⟨rfl, rfl⟩)
    (fun os started H enc _ F0 => by rw [OpenClaim.pre_eq_preRow]; exact lifted os started H enc F0)

/-- No parameter wants a stand-in; the program's own looks are off. -/
theorem plain (f : FuncId) (fn : Func) (hf : Tryd.pinned.checked.prog.funcNamed "pentaglot/pentaglotlaw09.LexiconNarrows" = some f) (hfn : Tryd.pinned.checked.prog.funcs[f]? = some fn) :
    false = Tryd.pinned.checked.prog.looks [] ∧ ∀ (j : Nat) t, fn.params[j]? = some t → Tryd.pinned.checked.prog.wantsStandIn t = false := by
  obtain rfl : f = 6 := Option.some.inj ((show Tryd.prog.funcNamed "pentaglot/pentaglotlaw09.LexiconNarrows" = some 6 by kernel_rfl).symm.trans hf) |>.symm
  obtain rfl : fn = Tryd.f6 := (Option.some.inj (Tryd.func6.symm.trans hfn)).symm
  refine ⟨by kernel_rfl, fun j t ht => ?_⟩
  rw [Tryd.params6] at ht
  have hm : t = 22 ∨ t = 25 ∨ t = 25 := by simpa using Array.mem_of_getElem? ht
  rcases hm with rfl | rfl | rfl
  · exact (show Tryd.prog.wantsStandIn 22 = false by kernel_rfl)
  · exact (show Tryd.prog.wantsStandIn 25 = false by kernel_rfl)
  · exact (show Tryd.prog.wantsStandIn 25 = false by kernel_rfl)

theorem proved : Rows.LexiconNarrowsCardSaid :=
  Claim7.holds_tied_plain_at .later [] _ _ _ _ row (fun _ h => by cases h) (by kernel_rfl) (fun _ h => by cases h) lexiconNarrows_row_tie rfl ⟨rfl, rfl⟩ (by kernel_rfl) rfl plain (by kernel_rfl)
#print axioms proved
end Go.Proofs.YthoppaemlandaaaDoor.lawNarrows
