/-
  The syllables are not empty, together they are the word, and each contains exactly one vowel if the word has vowels: the law SyllableJoins returns true. Conditions: none.
-/
import Derived.Test.YtfjfgjncmliadaaDoorSylFrame
import Derived.Test.YtfjfgjncmliadaaDoorSylJoin
import Derived.Test.YtfjfgjncmliadaaDoorCards
import Derived.Test.YtfjfgjncmliadaaDoorTie
import Derived.Deep.DeepHandedRow
import Derived.Deep.DeepWitnessRowRef
import Derived.SevenTiedAt
import Derived.Deep.RegionHeld3
namespace Go.Proofs.YtfjfgjncmliadaaDoor.lawYJoins
open Go.ChangeShapes Go.WideShapes Go.ChangeAt Go.RowKit
open Go.ChangeMaps (open_string shut_string)
open AlphPlain

set_option maxRecDepth 100000 in
set_option maxHeartbeats 1600000 in
theorem walk (A : Option Addr) (n c : Nat) (ls : List Lt) (B : Option Addr) (m d : Nat) (L R : Int) (os : List Mk) (s : ByteArray) (w : World) (hT : Tabs w) (ha : Ll w A n c ls) (_ : c * 8 ≤ reachBytes) (hb : Ons w B m d os) (_ : (Lit.int .i64 L).wf = true) (_ : (Lit.int .i64 R).wf = true) (zs : s.size ≤ maxLen) :
    Calls Tryd.prog 8 #[.slice A n c, pV B m d L R, .string s] w (BoolPost w true) := by
  have AL : Aft w (w.alloc (.cells #[.slice B m d, .int .i64 L, .int .i64 R] 24)) := (Aft.refl w).alloc _
  obtain ⟨t0, t1, t2⟩ := three_cells w (.slice B m d) (.int .i64 L) (.int .i64 R) 24
  cases hf : fewP n os s
  · go_enter Tryd.func8, Tryd.ntmps8
    go_wp2_with fail
    have h1 := awake_any _ (tabs_aft hT AL)
    refine h1.mono ?_
    rintro e w1 ⟨rfl, N1⟩
    clear h1
    have A1 := AL.trans N1
    have b0_1 := N1.cell t0
    have b1_1 := N1.cell t1
    have b2_1 := N1.cell t2
    go_wp2_with fail
    have h1 := few_any A n c B m d os L R s w1 (by have := ha.le; have := ha.cmax; omega) (hb.aft A1) zs
    rw [hf] at h1
    refine h1.mono ?_
    rintro e w2 ⟨rfl, N2⟩
    clear h1
    have A2 := A1.trans N2
    have b0_2 := N2.cell b0_1
    have b1_2 := N2.cell b1_1
    have b2_2 := N2.cell b2_1
    go_wp2_with fail
    have h1 := awake_any w2 (tabs_aft hT A2)
    refine h1.mono ?_
    rintro e w3 ⟨rfl, N3⟩
    clear h1
    have A3 := A2.trans N3
    go_wp2
    go_ret
    exact ⟨by first | rfl | simp, A3⟩
  · have hsz := (fewP_facts hf).2.2.1
    cases hok : okD ls (masks os) L R s
    · go_enter Tryd.func8, Tryd.ntmps8
      go_wp2_with fail
      have h1 := awake_any _ (tabs_aft hT AL)
      refine h1.mono ?_
      rintro e w1 ⟨rfl, N1⟩
      clear h1
      have A1 := AL.trans N1
      have b0_1 := N1.cell t0
      have b1_1 := N1.cell t1
      have b2_1 := N1.cell t2
      go_wp2_with fail
      have h1 := few_any A n c B m d os L R s w1 (by have := ha.le; have := ha.cmax; omega) (hb.aft A1) zs
      rw [hf] at h1
      refine h1.mono ?_
      rintro e w2 ⟨rfl, N2⟩
      clear h1
      have A2 := A1.trans N2
      have b0_2 := N2.cell b0_1
      have b1_2 := N2.cell b1_1
      have b2_2 := N2.cell b2_1
      have H1 := split_any A n c ls B m d os L R s w2 (tabs_aft hT A2) (ha.aft A2) (hb.aft A2) (by omega)
      rw [hok] at H1
      clear ha hb hf hT t0 t1 t2 b0_1 b1_1 b2_1 hok
      go_wp2_with fail
      refine H1.mono ?_
      rintro e w3 ⟨⟨X1, n1, k1, rfl, r1⟩, N3⟩
      obtain rfl : n1 = 0 := r1.len.symm
      clear H1 r1
      dsimp only [errOf]
      go_wp2
      go_ret
      exact ⟨by first | rfl | simp, A2.trans N3⟩
    · go_enter Tryd.func8, Tryd.ntmps8
      go_wp2_with fail
      have h1 := awake_any _ (tabs_aft hT AL)
      refine h1.mono ?_
      rintro e w1 ⟨rfl, N1⟩
      clear h1
      have A1 := AL.trans N1
      have b0_1 := N1.cell t0
      have b1_1 := N1.cell t1
      have b2_1 := N1.cell t2
      go_wp2_with fail
      have h1 := few_any A n c B m d os L R s w1 (by have := ha.le; have := ha.cmax; omega) (hb.aft A1) zs
      rw [hf] at h1
      refine h1.mono ?_
      rintro e w2 ⟨rfl, N2⟩
      clear h1
      have A2 := A1.trans N2
      have b0_2 := N2.cell b0_1
      have b1_2 := N2.cell b1_1
      have b2_2 := N2.cell b2_1
      have H1 := split_any A n c ls B m d os L R s w2 (tabs_aft hT A2) (ha.aft A2) (hb.aft A2) (by omega)
      rw [hok, if_pos rfl] at H1
      have hrl : (runesOf s).length ≤ 1000000 := by have := size_runesFrom s s.size 0 #[]; rw [runes_size] at this; simp at this; omega
      have HWB := Lib.hid (word_back hok)
      have HGD := Lib.hid (fun a b => fun r (hr : r ∈ sub (runesOf s) a b) => ok_good hok r (sub_mem hr))
      have HPB := Lib.hid (fun a b => piece_back hok a b)
      have HONE := Lib.hid (fun p (hp : p ∈ sylP ls (masks os) (runesOf s)) (hn : nuc ls (runesOf s) 0 ≠ []) => syl_one hp hn)
      have HCNT := Lib.hid (syl_count (ls := ls) (m := masks os) (rs := runesOf s))
      have hok2 := Lib.hid (fun p (h : p ∈ sylP ls (masks os) (runesOf s)) => sylP_ok h)
      have hpl := sylP_len ls (masks os) (runesOf s)
      obtain ⟨es0, hes0⟩ : ∃ es, sylP ls (masks os) (runesOf s) = pcs (runesOf s).length 0 es := ⟨_, rfl⟩
      have hnu := fun w0 (a : Aft w2 w0) => nuclei_any A n c ls s w0 (ha.aft (A2.trans a)) (by omega)
      have HNU := Lib.hid hnu
      have hnuT := fun (T : ByteArray) (hT : T.size ≤ 1000000) w0 (a : Aft w2 w0) => nuclei_any A n c ls T w0 (ha.aft (A2.trans a)) hT
      have HNT := Lib.hid hnuT
      have hN0 : (natI (nuc ls (runesOf s) 0)).length = (nuc ls (runesOf s) 0).length := natI_length _
      have HN0 := Lib.hid hN0
      generalize sylP ls (masks os) (runesOf s) = ps at *
      have HES0 := Lib.hid hes0
      clear ha hb hf hT t0 t1 t2 b0_1 b1_1 b2_1 hok hes0 hnu hnuT hN0
      go_wp2_with fail
      refine H1.mono ?_
      rintro e w3 ⟨⟨X1, n1, k1, rfl, r1⟩, N3⟩
      have hr1l := r1.len
      rw [show (splitB (runesOf s) ps).length = ps.length by simp [splitB]] at hr1l
      have hr1c := r1.cmax
      have hr1e := r1.le
      have HL := Lib.hid hr1l
      have hn1 : n1 ≤ 1000001 := by omega
      have HR1 := Lib.hid r1
      have A3 := A2.trans N3
      clear H1 r1 hr1l
      dsimp only [errOf]
      go_wp2
      go_loopw [9, 10] (fun sv i wr => ∃ (k P : Nat) (es : List Nat) (SB : ByteArray), k ≤ n1 ∧ P ≤ (runesOf s).length ∧ i = .int .i64 (k : Nat) ∧ sv = .string SB ∧ SB = runesBytes ((runesOf s).take P) ∧ ps.drop k = pcs (runesOf s).length P es ∧ Aft w3 wr) (fun _ i _ => n1 - (intOf i).toNat)
      case atStart => exact ⟨0, 0, es0, ⟨#[]⟩, Nat.zero_le _, Nat.zero_le _, rfl, rfl, rfl, HES0.out, Aft.refl _⟩
      case round =>
        obtain ⟨k, P, es, SB, hk, hP, rfl, rfl, hSB, hpc, haf⟩ := hrel
        have HSB := Lib.hid hSB
        have HPC := Lib.hid hpc
        have hSBs : SB.size ≤ 4000000 := by
          rw [hSB]
          have h1 := runesBytes_size_le ((runesOf s).take P)
          have h2 : ((runesOf s).take P).length ≤ (runesOf s).length := by rw [List.length_take]; omega
          omega
        clear hSB hpc
        by_cases hlt : k < n1
        · have hki : (k : Int) < (n1 : Int) := by omega
          obtain ⟨b, off, T, rfl, hTT, g1⟩ := (HR1.out.aft haf).at_ hlt
          have hp : ps[k]? = some (ps[k]'(by rw [HL.out]; exact hlt)) := List.getElem?_eq_getElem _
          generalize ps[k]'(by rw [HL.out]; exact hlt) = p at hp
          have hTp : T = runesBytes (sub (runesOf s) p.1 p.2) := by
            unfold splitB at hTT
            rw [List.getElem?_map, hp] at hTT
            exact (Option.some.inj hTT).symm
          have hpm := List.mem_of_getElem? hp
          have hpo := hok2.out p hpm
          have hst := HPC.out
          rw [drop_of_get hp] at hst
          obtain ⟨hb1, es', hes'⟩ := pcs_step hst
          have HS' := Lib.hid hes'
          have hTr : runesOf T = sub (runesOf s) p.1 p.2 := by rw [hTp]; exact HPB.out _ _
          have hsl := sub_length (rs := runesOf s) (a := p.1) (b := p.2) hpo.2
          have hTs : T.size ≤ 1000000 ∨ True := .inr trivial
          have hTsz : T.size ≤ 4000000 := by
            rw [hTp]
            have h1 := runesBytes_size_le (sub (runesOf s) p.1 p.2)
            omega
          have hTne : T.toList.isEmpty = false := by
            rw [hTp]
            exact piece_ne (HGD.out _ _) (fun e => by rw [e] at hsl; simp at hsl; omega)
          have hcat : SB ++ T = runesBytes ((runesOf s).take p.2) := by
            rw [HSB.out, hTp, ← runesBytes_append, ← hb1, sub_take _ (Nat.le_of_lt hpo.1)]
          have HCAT := Lib.hid hcat
          have hone : nuc ls (runesOf s) 0 ≠ [] → (natI (nuc ls (runesOf T) 0)).length = 1 := fun hn => by rw [natI_length, hTr]; exact HONE.out p hpm hn
          have HO1 := Lib.hid hone
          have hz : ¬ 9223372036854775807 < SB.size + T.size := by omega
          have hP2 : p.2 ≤ (runesOf s).length := hpo.2
          have hTs2 : T.size ≤ 1000000 := by
            rw [hTp]
            have h1 := runesBytes_size_le (sub (runesOf s) p.1 p.2)
            have h3 : (runesOf s).length ≤ 200 := by have := size_runesFrom s s.size 0 #[]; rw [runes_size] at this; simp at this; omega
            omega
          clear hTT hp hTp hpm hpo hst hes' hTr hsl hTs hcat hone hb1
          generalize p.2 = P2 at *
          have aN : Aft w2 wr := N3.trans haf
          go_wp2_with fail
          refine (HNU.out wr aN).mono ?_
          rintro e w5 ⟨⟨Y1, y1, z1, rfl, q1⟩, N5⟩
          have hy1 := q1.len
          rw [HN0.out] at hy1
          have g3 := N5.cell g1
          have aN5 := aN.trans N5
          have hyc := q1.cmax
          have hye := q1.le
          clear q1
          by_cases hz0 : y1 = 0
          · have hz0' : ¬ (0 : Int) < (y1 : Int) := by omega
            clear hy1
            go_wp2
            go_roundw
            case rel => exact ⟨k + 1, P2, es', SB ++ T, by omega, hP2, by go_num, by first | rfl | simp, HCAT.out, HS'.out, haf.trans N5⟩
            case measure => simp [intOf]; omega
          · have hz0' : (0 : Int) < (y1 : Int) := by omega
            have hne : nuc ls (runesOf s) 0 ≠ [] := fun e => by rw [e] at hy1; simp at hy1; omega
            have H1T := Lib.hid (HO1.out hne)
            clear hy1 hne
            go_wp2_with fail
            refine (HNT.out T hTs2 w5 aN5).mono ?_
            rintro e w6 ⟨⟨Y2, y2, z2, rfl, q2⟩, N6⟩
            obtain rfl : y2 = 1 := by rw [← q2.len]; exact H1T.out
            have g4 := N6.cell g3
            clear q2
            go_wp2
            go_roundw
            case rel => exact ⟨k + 1, P2, es', SB ++ T, by omega, hP2, by go_num, by first | rfl | simp, HCAT.out, HS'.out, (haf.trans N5).trans N6⟩
            case measure => simp [intOf]; omega
        · obtain rfl : k = n1 := by omega
          have hki : ¬ (k : Int) < (k : Int) := by omega
          have hnil : [] = pcs (runesOf s).length P es := by rw [← HPC.out, List.drop_of_length_le (by rw [HL.out]; exact Nat.le_refl _)]
          have hPN : P = (runesOf s).length := Nat.le_antisymm hP (pcs_nil hnil)
          have hss : SB = s := by rw [HSB.out, hPN, List.take_length, HWB.out]
          subst hss
          have hbe : (SB.toList == SB.toList) = true := by simp
          have aN : Aft w2 wr := N3.trans haf
          clear HSB hnil hPN
          by_cases h1 : k ≤ 1
          · have h1' : (k : Int) ≤ 1 := by omega
            go_wp2
            go_ret
            exact ⟨by first | rfl | simp, A3.trans haf⟩
          · have h1' : ¬ (k : Int) ≤ 1 := by omega
            go_wp2_with fail
            refine (HNU.out wr aN).mono ?_
            rintro e w5 ⟨⟨Y1, y1, z1, rfl, q1⟩, N5⟩
            obtain rfl : y1 = k := by
              rw [← q1.len, HN0.out]
              rcases HCNT.out with h | h
              · rw [HL.out] at h; omega
              · rw [h]; exact HL.out
            clear q1
            go_wp2
            go_ret
            exact ⟨by first | rfl | simp, (A3.trans haf).trans N5⟩

theorem own : ownKnob Tryd.prog.godebug = none := by kernel_rfl
theorem laidOut : laidOutB Tryd.prog = true := by kernel_rfl
theorem bytesA : Tryd.prog.bytesOf 51 = 8 := by kernel_rfl

set_option maxRecDepth 100000 in
theorem contract (H : Type) (enc : TypeId × Value → H) (W : World) (base : Nat) (args : Array Value) (ds gs : List (DataW H)) (before : List MemPlace)
    (hval : ∀ (j : Nat) t v, Tryd.f8.params[j]? = some t → args[j]? = some v → Value.okWide Tryd.prog W .any base t v)
    (hW : DataW.Whole enc Tryd.prog Tryd.f8.params.toList Rows.syllableJoinsSpec.vars false W args.toList ds gs before) (hsz0 : (DataW.weightsEach Tryd.prog (Tryd.f8.params.toList ++ Rows.syllableJoinsSpec.plain.varTypes Tryd.prog) (ds ++ gs)).all (· ≤ reachBytes) = true) (hL : laidMetH Tryd.prog listed W) :
    Calls Tryd.prog 8 args W fun e W' => ∃ v, e = .returned v ∧ Rows.syllableJoinsSpec.post enc Tryd.prog Tryd.f8 false true false false W args v W' := by
  have hW' := hW
  obtain ⟨p, q, hA0, hV, rfl, hfz, hnd⟩ := hW
  have hA : DataW.TrodAll enc Tryd.prog W 0 (fun _ => true) true Tryd.f8.params.toList args.toList ds p := hA0
  have hsz := hsz0
  rw [Tryd.params8] at hA hval hsz
  obtain ⟨v0, vs0, d0, ds0, p0, q0, hargs, rfl, rfl, h0, r0⟩ := trodAll_cons hA
  obtain ⟨v1, vs1, d1, ds1, p1, q1, rfl, rfl, rfl, h1, r1⟩ := trodAll_cons r0
  obtain ⟨v2, vs2, d2, ds2, p2, q2, rfl, rfl, rfl, h2, r2⟩ := trodAll_cons r1
  obtain ⟨rfl, rfl, rfl⟩ := trodAll_nil r2
  obtain rfl : args = #[v0, v1, v2] := by cases args; simp_all
  obtain ⟨rfl, rfl⟩ := trodVars_none hV
  obtain ⟨a0, len0, cap0, rfl⟩ := okWide_slice Tryd.underlying28 (hval 0 28 v0 rfl rfl)
  have lt0 : ∀ x ∈ p0, x.block < W.heap.size := by obtain ⟨m, hm⟩ := h0; exact DataW.trod_lt m _ _ _ hm
  obtain ⟨xs0, s0, b0⟩ := letters_of h0 (Nat.le_refl _) (fun el sp e => by have := sized_slice hsz (j := 0) (t := 28) (e := 51) rfl (by rw [e]; rfl) Tryd.underlying28; rwa [bytesA] at this)
  have lt1 : ∀ x ∈ p1, x.block < W.heap.size := by obtain ⟨m, hm⟩ := h1; exact DataW.trod_lt m _ _ _ hm
  obtain ⟨a1, len1, cap1, L1, R1, xs1, rfl, s1, zl1, zr1⟩ := pho_of (okWide_struct Tryd.underlying24 (hval 1 24 v1 rfl rfl)) h1
  obtain ⟨xs2, rfl, rfl, rfl, z2⟩ := open_string Tryd.underlying9 (hval 2 9 v2 rfl rfl) h2
  clear hA0
  refine (walk a0 len0 cap0 xs0 a1 len1 cap1 L1 R1 xs1 xs2 W (tabs_of hL) s0 b0 s1 zl1 zr1 z2).mono fun e W' ⟨he, bel⟩ => ?_
  subst he
  exact ⟨_, rfl, _, _, _, [], _, [], hW', trodAll_mk1 (shut_bool Tryd.underlying4 _), (trodAll_cons_mk (Below.trod laidOut (by kernel_rfl) (of_decide_eq_true (by kernel_rfl)) h0 bel lt0) (trodAll_cons_mk (Below.trod laidOut (by kernel_rfl) (of_decide_eq_true (by kernel_rfl)) h1 bel lt1) (trodAll_cons_mk (shut_string Tryd.underlying9 z2) trodAll_mk0))), rfl, Below.frame bel _, fun h => by cases h⟩

theorem witness_row (os : Os) {H : Type} (enc : TypeId × Value → H) :
    (OpenSpec.ofChange Rows.syllableJoinsSpec).preRow enc Tryd.prog Tryd.f8 Rows.syllableJoinsRow.domain false Rows.syllableJoinsRow.laid ((laidWorld os).forCall (fun _ _ => 0) ⟨#[], #[.slice none 0 0, .agg #[.slice none 0 0, .int .i64 0, .int .i64 0], .string ⟨#[]⟩], []⟩).memory #[.slice none 0 0, .agg #[.slice none 0 0, .int .i64 0, .int .i64 0], .string ⟨#[]⟩] := by
  have hw : (DataW.whole enc Tryd.prog ((laidWorld os).forCall (fun _ _ => 0) ⟨#[], #[.slice none 0 0, .agg #[.slice none 0 0, .int .i64 0, .int .i64 0], .string ⟨#[]⟩], []⟩).memory Tryd.f8.params.toList Rows.syllableJoinsSpec.vars false (#[.slice none 0 0, .agg #[.slice none 0 0, .int .i64 0, .int .i64 0], .string ⟨#[]⟩] : Array Value).toList 8).map (fun x => (x.1, x.2.1)) =
      some ([.nil, .agg [.nil, .lit (.int .i64 0), .lit (.int .i64 0)], .lit (.string [])], []) := by kernel_rfl
  obtain ⟨⟨x1, x2, x3⟩, hx, hx1⟩ := Option.map_eq_some_iff.1 hw
  simp only [Prod.mk.injEq] at hx1
  obtain ⟨rfl, rfl⟩ := hx1
  exact OpenSpec.preRow_of_cond 8 hx (by kernel_rfl) (fun k hk => by cases hk) (by kernel_rfl) (laid_met os _)

set_option maxRecDepth 100000 in
theorem lifted (os : Os) (started : os.Started) (H : Type) (enc : TypeId × Value → H) (F : Stop.Interp) :
    ReturnsInHanded {} Tryd.checked os 8 .any ((OpenSpec.ofChange Rows.syllableJoinsSpec).preRow enc Tryd.prog Tryd.f8 Rows.syllableJoinsRow.domain false Rows.syllableJoinsRow.laid) (((OpenSpec.ofChange Rows.syllableJoinsSpec).at F).post enc Tryd.prog Tryd.f8 false true false false) := by
  refine returnsInHanded_of_row (C := Tryd.checked) (s := (OpenSpec.ofChange Rows.syllableJoinsSpec)) own started (by kernel_rfl) Tryd.func8
    (witness_row_atRef (enc := enc) (C := Tryd.checked) false (laidWorld os) #[.slice none 0 0, .agg #[.slice none 0 0, .int .i64 0, .int .i64 0], .string ⟨#[]⟩] rfl (by kernel_rfl) (by kernel_rfl) (by kernel_rfl) (witness_row os enc)) ?_
  intro W base args ds gs before hval hW _ _ hsz hL _ _
  exact contract H enc W base args ds gs before hval hW hsz hL

theorem row : Rows.SyllableJoinsSaid :=
  OpenClaim.holds_of_cond 8 Tryd.f8 rfl rfl rfl rfl rfl rfl rfl ⟨rfl, rfl, rfl, rfl, rfl⟩ rfl rfl rfl rfl rfl (by kernel_rfl) Tryd.func8 (by kernel_rfl)
    (of_decide_eq_true (by kernel_rfl)) (by unfold Func.isWrapper; rw [if_neg (of_decide_eq_false (by kernel_rfl))]; exact ⟨rfl, rfl⟩)
    (fun os started H enc _ F0 => by rw [OpenClaim.pre_eq_preRow]; exact lifted os started H enc F0)

/-- No parameter wants a stand-in; the program's own looks are off. -/
theorem plain (f : FuncId) (fn : Func) (hf : Tryd.pinned.checked.prog.funcNamed "pentaglot/pentaglotlaw13.SyllableJoins" = some f) (hfn : Tryd.pinned.checked.prog.funcs[f]? = some fn) :
    false = Tryd.pinned.checked.prog.looks [] ∧ ∀ (j : Nat) t, fn.params[j]? = some t → Tryd.pinned.checked.prog.wantsStandIn t = false := by
  obtain rfl : f = 8 := Option.some.inj ((show Tryd.prog.funcNamed "pentaglot/pentaglotlaw13.SyllableJoins" = some 8 by kernel_rfl).symm.trans hf) |>.symm
  obtain rfl : fn = Tryd.f8 := (Option.some.inj (Tryd.func8.symm.trans hfn)).symm
  refine ⟨by kernel_rfl, fun j t ht => ?_⟩
  rw [Tryd.params8] at ht
  have hm : t = 28 ∨ t = 24 ∨ t = 9 := by simpa using Array.mem_of_getElem? ht
  rcases hm with rfl | rfl | rfl
  · exact (show Tryd.prog.wantsStandIn 28 = false by kernel_rfl)
  · exact (show Tryd.prog.wantsStandIn 24 = false by kernel_rfl)
  · exact (show Tryd.prog.wantsStandIn 9 = false by kernel_rfl)

theorem proved : Rows.SyllableJoinsCardSaid :=
  Claim7.holds_tied_plain_at .later [] _ _ _ _ row (fun _ h => by cases h) (by kernel_rfl) (fun _ h => by cases h) syllableJoins_row_tie rfl ⟨rfl, rfl⟩ (by kernel_rfl) rfl plain (by kernel_rfl)
#print axioms proved
end Go.Proofs.YtfjfgjncmliadaaDoor.lawYJoins
