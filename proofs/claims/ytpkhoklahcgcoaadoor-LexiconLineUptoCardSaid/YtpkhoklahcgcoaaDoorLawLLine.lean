/-
  LexiconLine: Line writes ID, category, stem, paradigm and features, and nothing for a lexeme without a line: the law returns true. Condition: the argument's bulk is at most 2^20 (the second form).
-/
import Derived.Test.YtpkhoklahcgcoaaDoorLexAwakeW
import Derived.Test.YtpkhoklahcgcoaaDoorLexFrame
import Derived.Test.YtpkhoklahcgcoaaDoorLexFind
import Derived.Test.YtpkhoklahcgcoaaDoorLexOne
import Derived.Test.YtpkhoklahcgcoaaDoorCards
import Derived.Test.YtpkhoklahcgcoaaDoorTie
import Derived.Deep.DeepWitnessRowRef
import Derived.Deep.DeepHandedRow
import Derived.SevenTiedAt
namespace Go.Proofs.YtpkhoklahcgcoaaDoor.lawLine
open Go.ChangeShapes Go.WideShapes Go.ChangeAt Go.RowKit
open Go.ChangeMaps (open_string shut_string)
open FeatPlain

set_option maxRecDepth 100000 in
set_option maxHeartbeats 3200000 in
theorem walk (x : Lx) (w : World) (hM : Mx w) (hx : Lok1 w x) :
    Calls Tryd.prog 3 #[.agg #[.string x.id, .string x.cat, .string x.stem, .string x.par, .slice x.fa x.fn x.fc]] w (BoolPost w true) := by
  have A0 := (Aft.refl w).alloc (.cells #[.string x.id, .string x.cat, .string x.stem, .string x.par, .slice x.fa x.fn x.fc] 24)
  have f5 := Lib.hid (five_new w x 24)
  have HAW := Lib.hid (fun W (q : Aft w W) => awakeL_any W (hM.aft q))
  have hfew := fun W (k : Aft w W) => few_any (some ⟨W.heap.size, 0, none⟩) 1 1 [x] _ (one_ls (hx.lw.aft k))
  have HFE := Lib.hid (show fewB [x] = shortB x by simp [fewB])
  cases hf : shortB x
  · rw [HFE.out, hf] at hfew
    have HF := Lib.hid hfew
    clear hfew hf
    go_enter Tryd.func3, Tryd.ntmps3
    go_wp2_with fail
    refine (HAW.out _ A0).mono ?_
    rintro e wA ⟨rfl, AA⟩
    have AA0 := A0.trans AA
    obtain ⟨d0, d1, d2, d3, d4⟩ := f5.out.aft AA
    simp only [Nat.zero_add] at d1 d2 d3 d4
    go_wp2_with fail
    refine (HF.out _ AA0).mono ?_
    rintro e wF ⟨rfl, AF⟩
    have AO := (AA0.alloc (.cells #[.string x.id, .string x.cat, .string x.stem, .string x.par, .slice x.fa x.fn x.fc] 24)).trans AF
    go_wp2_with fail
    refine (HAW.out _ AO).mono ?_
    rintro e wO ⟨rfl, AP⟩
    go_wp2
    go_ret
    exact ⟨rfl, AO.trans AP⟩
  · rw [HFE.out, hf] at hfew
    have HF := Lib.hid hfew
    obtain ⟨s0, s1, s2, s3, s4⟩ := short_sizes hf
    have ht : (text x.fs).length ≤ 1099511627776 := by
      have h1 := text_small hx.small
      have h2 : x.fs.length = x.fn := hx.lw.fts.len
      omega
    have hl : (lineT x).size ≤ 1099511627776 := by
      have h1 := text_small hx.small
      have h2 : x.fs.length = x.fn := hx.lw.fts.len
      have h3 := lineT_size x s0 s1 s2 s3
      omega
    have HLN := Lib.hid (fun W (q : Aft w W) => Line_any x W (hx.lw.aft q) (cany_any x.stem (by omega)) hx.sz hl ht)
    have HRL := Lib.hid (fun W (q : Aft w W) => refLine_any x W (hx.lw.aft q) hx.sz s0 s1 s2 s3 ht)
    clear hfew hf s0 s1 s2 s3 s4 ht hl
    go_enter Tryd.func3, Tryd.ntmps3
    go_wp2_with fail
    refine (HAW.out _ A0).mono ?_
    rintro e wA ⟨rfl, AA⟩
    have AA0 := A0.trans AA
    obtain ⟨d0, d1, d2, d3, d4⟩ := f5.out.aft AA
    simp only [Nat.zero_add] at d1 d2 d3 d4
    go_wp2_with fail
    refine (HF.out _ AA0).mono ?_
    rintro e wF ⟨rfl, AF⟩
    have AO := (AA0.alloc (.cells #[.string x.id, .string x.cat, .string x.stem, .string x.par, .slice x.fa x.fn x.fc] 24)).trans AF
    clear d0 d1 d2 d3 d4
    obtain ⟨d0, d1, d2, d3, d4⟩ := f5.out.aft ((AA.alloc (.cells #[.string x.id, .string x.cat, .string x.stem, .string x.par, .slice x.fa x.fn x.fc] 24)).trans AF)
    simp only [Nat.zero_add] at d1 d2 d3 d4
    go_wp2
    refine wp_region_held_drew (S := fun w' => w'.cell? ⟨w.heap.size, 0, none⟩ = some (.string x.id) ∧ w'.cell? ⟨w.heap.size, 1, none⟩ = some (.string x.cat) ∧ w'.cell? ⟨w.heap.size, 2, none⟩ = some (.string x.stem) ∧ w'.cell? ⟨w.heap.size, 3, none⟩ = some (.string x.par) ∧ w'.cell? ⟨w.heap.size, 4, none⟩ = some (.slice x.fa x.fn x.fc)) (by kernel_rfl) (⟨d0, d1, d2, d3, d4⟩) (fun hHeld => ?_)
    refine take_on (i := 0) (v := ?v49) rfl (by kernel_rfl) (by kernel_rfl) (by kernel_rfl) (fun _ _ _ h => h) (by rfl) (by assumption) ?y49 ?_
    case y49 => (intro w hSw; (try dsimp only at hSw); go_simp; (try with_reducible rfl))
    try simp only [Act.put, List.setIfInBounds_toArray, List.set_cons_zero, List.set_cons_succ]
    refine take_on (i := 2) (v := ?v50) rfl (by kernel_rfl) (by kernel_rfl) (by kernel_rfl) (fun _ _ _ h => h) (by rfl) (by assumption) ?y50 ?_
    case y50 => (intro w hSw; (try dsimp only at hSw); go_simp; (try with_reducible rfl))
    try simp only [Act.put, List.setIfInBounds_toArray, List.set_cons_zero, List.set_cons_succ]
    refine one_ready (i := 1) rfl (by kernel_rfl) (by rfl) (fun K hK => ?_)
    go_simp
    refine (HLN.out _ AO.drew).mono ?_
    rintro e w2 ⟨rfl, A2⟩
    have hKK : w2.cell? ⟨w.heap.size, 0, none⟩ = some (.string x.id) ∧ w2.cell? ⟨w.heap.size, 1, none⟩ = some (.string x.cat) ∧ w2.cell? ⟨w.heap.size, 2, none⟩ = some (.string x.stem) ∧ w2.cell? ⟨w.heap.size, 3, none⟩ = some (.string x.par) ∧ w2.cell? ⟨w.heap.size, 4, none⟩ = some (.slice x.fa x.fn x.fc) := ⟨A2.cell hHeld.1, A2.cell hHeld.2.1, A2.cell hHeld.2.2.1, A2.cell hHeld.2.2.2.1, A2.cell hHeld.2.2.2.2⟩
    refine hK.out _ _ (by assumption) (fun hHeld => ?_)
    clear hK K
    try simp only [Act.put, List.setIfInBounds_toArray, List.set_cons_zero, List.set_cons_succ]
    refine one_ready (i := 3) rfl (by kernel_rfl) (by rfl) (fun K hK => ?_)
    go_simp
    refine (HRL.out _ (AO.drew.trans A2)).mono ?_
    rintro e w3 ⟨rfl, A3⟩
    have hKK : w3.cell? ⟨w.heap.size, 0, none⟩ = some (.string x.id) ∧ w3.cell? ⟨w.heap.size, 1, none⟩ = some (.string x.cat) ∧ w3.cell? ⟨w.heap.size, 2, none⟩ = some (.string x.stem) ∧ w3.cell? ⟨w.heap.size, 3, none⟩ = some (.string x.par) ∧ w3.cell? ⟨w.heap.size, 4, none⟩ = some (.slice x.fa x.fn x.fc) := ⟨A3.cell hHeld.1, A3.cell hHeld.2.1, A3.cell hHeld.2.2.1, A3.cell hHeld.2.2.2.1, A3.cell hHeld.2.2.2.2⟩
    refine hK.out _ _ (by assumption) (fun hHeld => ?_)
    clear hK K
    try simp only [Act.put, List.setIfInBounds_toArray, List.set_cons_zero, List.set_cons_succ]
    refine take_on (i := 4) (v := ?v53) rfl (by kernel_rfl) (by kernel_rfl) (by kernel_rfl) (fun _ _ _ h => h) (by rfl) (by assumption) ?y53 ?_
    case y53 => (intro w hSw; (try dsimp only at hSw); go_simp; (try with_reducible rfl))
    try simp only [Act.put, List.setIfInBounds_toArray, List.set_cons_zero, List.set_cons_succ]
    refine take_on (i := 5) (v := ?v54) rfl (by kernel_rfl) (by kernel_rfl) (by kernel_rfl) (fun _ _ _ h => h) (by rfl) (by assumption) ?y54 ?_
    case y54 => (intro w hSw; (try dsimp only at hSw); go_simp; (try with_reducible rfl))
    try simp only [Act.put, List.setIfInBounds_toArray, List.set_cons_zero, List.set_cons_succ]
    refine wpAnyH_done (by kernel_rfl) ?_ _
    go_wp2
    go_ret
    exact ⟨rfl, (AO.drew.trans A2).trans A3⟩


theorem own : ownKnob Tryd.prog.godebug = none := by kernel_rfl
theorem laidOut : laidOutB Tryd.prog = true := by kernel_rfl

set_option maxRecDepth 100000 in
theorem contract (H : Type) (enc : TypeId × Value → H) (W : World) (base : Nat) (args : Array Value) (ds gs : List (DataW H)) (before : List MemPlace)
    (hval : ∀ (j : Nat) t v, Tryd.f3.params[j]? = some t → args[j]? = some v → Value.okWide Tryd.prog W .any base t v)
    (hW : DataW.Whole enc Tryd.prog Tryd.f3.params.toList Rows.lexiconLineSpec.vars false W args.toList ds gs before) (hsz0 : (DataW.weightsEach Tryd.prog (Tryd.f3.params.toList ++ Rows.lexiconLineSpec.plain.varTypes Tryd.prog) (ds ++ gs)).all (· ≤ reachBytes) = true) (hSh : W.ShapedOpen Tryd.prog) (hk : Rows.uptoSmall H (ds ++ gs) = true) :
    Calls Tryd.prog 3 args W fun e W' => ∃ v, e = .returned v ∧ Rows.lexiconLineSpec.post enc Tryd.prog Tryd.f3 false true false false W args v W' := by
  have hW' := hW
  obtain ⟨p, q, hA0, hV, rfl, hfz, hnd⟩ := hW
  have hA : DataW.TrodAll enc Tryd.prog W 0 (fun _ => true) true Tryd.f3.params.toList args.toList ds p := hA0
  have hsz := hsz0
  rw [Tryd.params3] at hA hval hsz
  obtain ⟨v0, vs0, d0, ds0, p0, q0, hargs, rfl, rfl, h0, r0⟩ := trodAll_cons hA
  obtain ⟨rfl, rfl, rfl⟩ := trodAll_nil r0
  obtain rfl : args = #[v0] := by cases args; simp_all
  obtain ⟨rfl, rfl⟩ := trodVars_none hV
  have hB := bulks.bound hk
  have hB0 := bulks.part_le (d := d0) (l := [d0] ++ []) (by simp)
  have lt0 : ∀ x ∈ p0, x.block < W.heap.size := by obtain ⟨m, hm⟩ := h0; exact DataW.trod_lt m _ _ _ hm
  obtain ⟨xs0, rfl, z0⟩ := lex1_of (okWide_struct Tryd.underlying24 (hval 0 24 v0 rfl rfl)) h0 (fun x hx => by simpa using List.all_eq_true.1 hsz x (DataW.weights_mem_each (j := 0) (t := 24) rfl rfl x hx)) (by omega)
  clear hA0
  refine (walk xs0 W (mx_of hSh) z0).mono fun e W' ⟨he, bel⟩ => ?_
  subst he
  exact ⟨_, rfl, _, _, _, [], _, [], hW', trodAll_mk1 (shut_bool Tryd.underlying4 _), (trodAll_cons_mk (Below.trod laidOut (by kernel_rfl) (of_decide_eq_true (by kernel_rfl)) h0 bel lt0) trodAll_mk0), rfl, Below.frame bel _, fun h => by cases h⟩

theorem witness_row (os : Os) {H : Type} (enc : TypeId × Value → H) :
    (Rows.OpenSpec.upto Rows.lexiconLineSpec).preRow enc Tryd.prog Tryd.f3 Rows.lexiconLineUptoRow.domain false Rows.lexiconLineUptoRow.laid ((laidWorld os).forCall (fun _ _ => 0) ⟨#[], #[.agg #[.string ⟨#[]⟩, .string ⟨#[]⟩, .string ⟨#[]⟩, .string ⟨#[]⟩, .slice none 0 0]], []⟩).memory #[.agg #[.string ⟨#[]⟩, .string ⟨#[]⟩, .string ⟨#[]⟩, .string ⟨#[]⟩, .slice none 0 0]] := by
  have hw : (DataW.whole enc Tryd.prog ((laidWorld os).forCall (fun _ _ => 0) ⟨#[], #[.agg #[.string ⟨#[]⟩, .string ⟨#[]⟩, .string ⟨#[]⟩, .string ⟨#[]⟩, .slice none 0 0]], []⟩).memory Tryd.f3.params.toList Rows.lexiconLineSpec.vars false (#[.agg #[.string ⟨#[]⟩, .string ⟨#[]⟩, .string ⟨#[]⟩, .string ⟨#[]⟩, .slice none 0 0]] : Array Value).toList 8).map (fun x => (x.1, x.2.1)) =
      some ([.agg [.lit (.string []), .lit (.string []), .lit (.string []), .lit (.string []), .nil]], []) := by kernel_rfl
  obtain ⟨⟨x1, x2, x3⟩, hx, hx1⟩ := Option.map_eq_some_iff.1 hw
  simp only [Prod.mk.injEq] at hx1
  obtain ⟨rfl, rfl⟩ := hx1
  exact OpenSpec.preRow_of_cond 8 hx (by kernel_rfl) (fun k hk => by cases hk; kernel_rfl) (by kernel_rfl) (laid_met os _)

set_option maxRecDepth 100000 in
theorem lifted (os : Os) (started : os.Started) (H : Type) (enc : TypeId × Value → H) (F : Stop.Interp) :
    ReturnsInHanded {} Tryd.checked os 3 .any ((Rows.OpenSpec.upto Rows.lexiconLineSpec).preRow enc Tryd.prog Tryd.f3 Rows.lexiconLineUptoRow.domain false Rows.lexiconLineUptoRow.laid) (((Rows.OpenSpec.upto Rows.lexiconLineSpec).at F).post enc Tryd.prog Tryd.f3 false true false false) := by
  refine returnsInHanded_of_row (C := Tryd.checked) (s := (Rows.OpenSpec.upto Rows.lexiconLineSpec)) own started (by kernel_rfl) Tryd.func3
    (witness_row_atRef (enc := enc) (C := Tryd.checked) false (laidWorld os) #[.agg #[.string ⟨#[]⟩, .string ⟨#[]⟩, .string ⟨#[]⟩, .string ⟨#[]⟩, .slice none 0 0]] rfl (by kernel_rfl) (by kernel_rfl) (by kernel_rfl) (witness_row os enc)) ?_
  intro W base args ds gs before hval hW _ hk hsz _ hSh _
  exact contract H enc W base args ds gs before hval hW hsz hSh (hk _ rfl)

theorem row : Rows.LexiconLineUptoSaid :=
  OpenClaim.holds_of_cond 3 Tryd.f3 rfl rfl rfl rfl rfl rfl rfl ⟨rfl, rfl, rfl, rfl, rfl⟩ rfl rfl rfl rfl rfl (by kernel_rfl) Tryd.func3 (by kernel_rfl)
    (of_decide_eq_true (by kernel_rfl)) (by unfold Func.isWrapper; rw [if_neg (of_decide_eq_false (by kernel_rfl))]; exact ⟨rfl, rfl⟩)
    (fun os started H enc _ F0 => by rw [OpenClaim.pre_eq_preRow]; exact lifted os started H enc F0)

/-- No parameter wants a stand-in; the program's own looks are off. -/
theorem plain (f : FuncId) (fn : Func) (hf : Tryd.pinned.checked.prog.funcNamed "pentaglot/pentaglotlaw09.LexiconLine" = some f) (hfn : Tryd.pinned.checked.prog.funcs[f]? = some fn) :
    false = Tryd.pinned.checked.prog.looks [] ∧ ∀ (j : Nat) t, fn.params[j]? = some t → Tryd.pinned.checked.prog.wantsStandIn t = false := by
  obtain rfl : f = 3 := Option.some.inj ((show Tryd.prog.funcNamed "pentaglot/pentaglotlaw09.LexiconLine" = some 3 by kernel_rfl).symm.trans hf) |>.symm
  obtain rfl : fn = Tryd.f3 := (Option.some.inj (Tryd.func3.symm.trans hfn)).symm
  refine ⟨by kernel_rfl, fun j t ht => ?_⟩
  rw [Tryd.params3] at ht
  have hm : t = 24 := by simpa using Array.mem_of_getElem? ht
  rcases hm with rfl
  · exact (show Tryd.prog.wantsStandIn 24 = false by kernel_rfl)

theorem proved : Rows.LexiconLineUptoCardSaid :=
  Claim7.holds_tied_plain_at .later [] _ _ _ _ row (fun _ h => by cases h) (by kernel_rfl) (fun _ h => by cases h) lexiconLineUpto_row_tie rfl ⟨rfl, rfl⟩ (by kernel_rfl) rfl plain (by kernel_rfl)
#print axioms proved
end Go.Proofs.YtpkhoklahcgcoaaDoor.lawLine
