/-
  LexiconCategories: Categories returns each category once, ascending, and every lexeme is in exactly one of them: the law returns true. Conditions: none (every list of lexemes, of any size that an argument can have).
-/
import Derived.Test.YthoppaemlandaaaDoorLexAwakeW
import Derived.Test.YthoppaemlandaaaDoorLexFrame
import Derived.Test.YthoppaemlandaaaDoorLexFind
import Derived.Test.YthoppaemlandaaaDoorCards
import Derived.Test.YthoppaemlandaaaDoorTie
import Derived.Deep.DeepWitnessRowRef
import Derived.Deep.DeepHandedRow
import Derived.SevenTiedAt
namespace Go.Proofs.YthoppaemlandaaaDoor.lawCats
open Go.ChangeShapes Go.WideShapes Go.ChangeAt Go.RowKit
open Go.ChangeMaps (open_string shut_string)
open FeatPlain

/-- How many lexemes have these categories. -/
def cnt (xs : List Lx) (ks : List ByteArray) : Nat := (ks.map fun s => (xs.filter fun x => decide (x.cat = s)).length).sum
theorem cnt_snoc (xs : List Lx) (ks : List ByteArray) (s : ByteArray) : cnt xs (ks ++ [s]) = cnt xs ks + (xs.filter fun x => decide (x.cat = s)).length := by simp [cnt]
theorem cnt_cons (x : Lx) (xs : List Lx) : ∀ ks : List ByteArray, ks.Nodup → (x.cat ∈ ks → cnt (x :: xs) ks = cnt xs ks + 1) ∧ (x.cat ∉ ks → cnt (x :: xs) ks = cnt xs ks)
  | [], _ => ⟨fun h => (by cases h), fun _ => rfl⟩
  | s :: ks, hn => by
    have hn' := List.nodup_cons.1 hn
    obtain ⟨h1, h2⟩ := cnt_cons x xs ks hn'.2
    unfold cnt at h1 h2 ⊢
    simp only [List.map_cons, List.sum_cons]
    by_cases q : x.cat = s
    · have e : ((x :: xs).filter fun y => decide (y.cat = s)).length = (xs.filter fun y => decide (y.cat = s)).length + 1 := by simp [q]
      rw [e]
      refine ⟨fun _ => ?_, fun h => absurd (by rw [q]; exact List.mem_cons_self) h⟩
      rw [h2 (by rw [q]; exact hn'.1)]; omega
    · have e : ((x :: xs).filter fun y => decide (y.cat = s)).length = (xs.filter fun y => decide (y.cat = s)).length := by simp [q]
      rw [e]
      refine ⟨fun h => ?_, fun h => ?_⟩
      · rcases List.mem_cons.1 h with h | h
        · exact absurd h q
        · rw [h1 h]; omega
      · rw [h2 (fun k => h (List.mem_cons_of_mem _ k))]
theorem cnt_all : ∀ (xs : List Lx) (ks : List ByteArray), ks.Nodup → (∀ x ∈ xs, x.cat ∈ ks) → cnt xs ks = xs.length
  | [], ks, _, _ => by
    have : ∀ l : List ByteArray, cnt [] l = 0 := by
      intro l
      induction l with
      | nil => rfl
      | cons a l ih => unfold cnt at ih ⊢; simpa using ih
    rw [this]; rfl
  | x :: xs, ks, hn, h => by
    rw [(cnt_cons x xs ks hn).1 (h x (by simp)), cnt_all xs ks hn (fun y hy => h y (List.mem_cons_of_mem _ hy)), List.length_cons]
theorem asc_nodup {l : List ByteArray} (h : AscS l) : l.Nodup := h.imp fun {a b} hab e => by rw [e, lt_irrefl] at hab; cases hab
theorem cnt_le {xs : List Lx} {cs : List ByteArray} {k : Nat} (h : cnt xs cs = xs.length) : cnt xs (cs.take k) ≤ xs.length := by
  have : cnt xs cs = cnt xs (cs.take k) + cnt xs (cs.drop k) := by
    unfold cnt
    rw [← List.sum_append, ← List.map_append, List.take_append_drop]
  omega

theorem filter_pos {xs : List Lx} {s : ByteArray} (h : ∃ x ∈ xs, x.cat = s) : 0 < (xs.filter fun x => decide (x.cat = s)).length := by
  obtain ⟨x, hx, e⟩ := h
  exact List.length_pos_of_mem (List.mem_filter.2 ⟨hx, by simpa using e⟩)
theorem asc_step {cs : List ByteArray} (h : AscS cs) {i j : Nat} {a b : ByteArray} (ha : cs[i]? = some a) (hb : cs[j]? = some b) (hij : i < j) : Op.bytesLess a.toList b.toList = true := by
  obtain ⟨hi, rfl⟩ := List.getElem?_eq_some_iff.1 ha
  obtain ⟨hj, rfl⟩ := List.getElem?_eq_some_iff.1 hb
  exact (List.pairwise_iff_getElem.1 h) i j hi hj hij

set_option maxRecDepth 100000 in
set_option maxHeartbeats 3200000 in
theorem walk (A : Option Addr) (n c : Nat) (xs : List Lx) (w : World) (hM : Mx w) (ha : Ls w A n c xs) (hok : Lok xs) :
    Calls Tryd.prog 7 #[.slice A n c] w (BoolPost w true) := by
  have hfew := fun W (k : Aft w W) => few_any A n c xs W (ha.aft k)
  cases hf : fewB xs
  · rw [hf] at hfew
    have HF := Lib.hid hfew
    clear hfew hf
    go_enter Tryd.func7, Tryd.ntmps7
    go_wp2_with fail
    refine (awakeL_any w hM).mono ?_
    rintro e wA ⟨rfl, AA⟩
    go_wp2_with fail
    refine (HF.out _ AA).mono ?_
    rintro e wF ⟨rfl, AF⟩
    have AO := AA.trans AF
    clear HF
    go_wp2_with fail
    refine (awakeL_any _ (hM.aft AO)).mono ?_
    rintro e wO ⟨rfl, AP⟩
    go_wp2
    go_ret
    exact ⟨rfl, AO.trans AP⟩
  · rw [hf] at hfew
    have HF := Lib.hid hfew
    have hx3 : xs.length ≤ 300 := by
      simp only [fewB, Bool.and_eq_true, decide_eq_true_eq] at hf
      exact hf.2
    have hn3 : n ≤ 300 := by rw [← ha.len]; exact hx3
    have hlen := Lib.hid ha.len
    clear hfew hf
    go_enter Tryd.func7, Tryd.ntmps7
    go_wp2_with fail
    refine (awakeL_any w hM).mono ?_
    rintro e wA ⟨rfl, AA⟩
    go_wp2_with fail
    refine (HF.out _ AA).mono ?_
    rintro e wF ⟨rfl, AF⟩
    have A0 := AA.trans AF
    have H1 := Lib.hid (Categories_any A n c xs wF (ha.aft A0) (by omega))
    clear HF
    go_wp2_with fail
    refine H1.out.mono ?_
    rintro e w1 ⟨⟨B, m, d, cs, rfl, hss, hasc, hmem⟩, A1⟩
    clear H1
    have HCA := Lib.hid (cnt_all xs cs (asc_nodup hasc) (fun x hx => (hmem x.cat).2 ⟨x, hx, rfl⟩))
    have hmd := hss.le
    have hdm := hss.cmax
    have HSS := Lib.hid hss
    have HASC := Lib.hid hasc
    have HMEM := Lib.hid hmem
    have A01 := A0.trans A1
    clear hss hasc hmem
    go_wp2
    go_loopw [4, 5] (fun v i wr => ∃ k t, k ≤ m ∧ i = .int .i64 (k : Nat) ∧ v = .int .i64 (t : Nat) ∧ t = cnt xs (cs.take k) ∧ Aft w1 wr) (fun _ i _ => m - (intOf i).toNat)
    case atStart => exact ⟨0, 0, Nat.zero_le _, rfl, rfl, rfl, Aft.refl _⟩
    case round =>
      obtain ⟨k, t, hk, rfl, rfl, ht, haf⟩ := hrel
      have ht3 : t ≤ 300 := by rw [ht]; exact Nat.le_trans (cnt_le HCA.out) hx3
      have HT := Lib.hid ht
      clear ht
      by_cases hlt : k < m
      · obtain ⟨b, off, s, rfl, hs, hc⟩ := HSS.out.at_ hlt
        have c0 := haf.cell hc
        have HS := Lib.hid hs
        have hq := filter_pos (HMEM.out s |>.1 (List.mem_of_getElem? hs))
        have hq3 : (xs.filter fun x => decide (x.cat = s)).length ≤ 300 := Nat.le_trans (List.length_filter_le _ _) hx3
        obtain ⟨q, hqE⟩ : ∃ q, q = (xs.filter fun x => decide (x.cat = s)).length := ⟨_, rfl⟩
        rw [← hqE] at hq hq3
        have HQ := Lib.hid hqE
        have H2 := Lib.hid (Category_any A n c xs s wr (ha.aft (A01.trans haf)) hok.fn (by omega))
        clear hs hqE
        go_wp2_with fail
        refine H2.out.mono ?_
        rintro e w2 ⟨⟨C, q', e', ys, rfl, hys, _, hsay⟩, A2⟩
        have hqq : q' = q := by rw [HQ.out, ← hys.len, ← List.length_map (f := Lx.say), hsay, List.length_map]
        subst hqq
        clear H2 hys hsay
        have AK := haf.trans A2
        have d0 := A2.cell c0
        have HN := Lib.hid (show t + q' = cnt xs (cs.take (k + 1)) by rw [HT.out, HQ.out, take_next HS.out, cnt_snoc])
        have hq0 : ¬ (q' : Int) = 0 := by omega
        have hq1 : ((q' : Int) == 0) = false := by rw [beq_eq_false_iff_ne]; exact hq0
        by_cases hk0 : k = 0
        · subst hk0
          go_wp2
          go_quiet (fail)
          go_wp2
          go_roundw
          case rel => exact ⟨1, t + q', by omega, rfl, by go_num, HN.out, AK.drewN _⟩
          case measure => simp [intOf]; omega
        · obtain ⟨b', off', s', e0, hs', hc'⟩ := HSS.out.at_ (show k - 1 < m by omega)
          cases e0
          have d1 := AK.cell hc'
          have hless : Op.bytesLess s'.toList s.toList = true := asc_step HASC.out hs' HS.out (by omega)
          have hk1 : (0 : Int) < (k : Int) := by omega
          obtain ⟨j, hj⟩ : ∃ j, k = j + 1 := ⟨k - 1, by omega⟩
          subst hj
          rw [show j + 1 - 1 = j from rfl] at d1
          clear hs' hc' hk0
          go_wp2
          go_quiet (fail)
          go_wp2
          go_roundw
          case rel => exact ⟨j + 1 + 1, t + q', by omega, by go_num, by go_num, HN.out, AK.drewN _⟩
          case measure => simp [intOf]; omega
      · obtain rfl : k = m := by omega
        have HE := Lib.hid (show t = n by rw [HT.out, List.take_of_length_le (by rw [HSS.out.len]; exact Nat.le_refl _), HCA.out]; exact hlen.out)
        have e1 : ((t : Int) == (n : Int)) = true := by rw [HE.out]; simp
        go_wp2
        go_ret
        exact ⟨by first | rfl | (rw [HE.out]; simp) | simp [HE.out], A01.trans haf⟩

theorem own : ownKnob Tryd.prog.godebug = none := by kernel_rfl
theorem laidOut : laidOutB Tryd.prog = true := by kernel_rfl

set_option maxRecDepth 100000 in
theorem contract (H : Type) (enc : TypeId × Value → H) (W : World) (base : Nat) (args : Array Value) (ds gs : List (DataW H)) (before : List MemPlace)
    (hval : ∀ (j : Nat) t v, Tryd.f7.params[j]? = some t → args[j]? = some v → Value.okWide Tryd.prog W .any base t v)
    (hW : DataW.Whole enc Tryd.prog Tryd.f7.params.toList Rows.lexiconCategoriesSpec.vars false W args.toList ds gs before) (hsz0 : (DataW.weightsEach Tryd.prog (Tryd.f7.params.toList ++ Rows.lexiconCategoriesSpec.plain.varTypes Tryd.prog) (ds ++ gs)).all (· ≤ reachBytes) = true) (hSh : W.ShapedOpen Tryd.prog) :
    Calls Tryd.prog 7 args W fun e W' => ∃ v, e = .returned v ∧ Rows.lexiconCategoriesSpec.post enc Tryd.prog Tryd.f7 false true false false W args v W' := by
  have hW' := hW
  obtain ⟨p, q, hA0, hV, rfl, hfz, hnd⟩ := hW
  have hA : DataW.TrodAll enc Tryd.prog W 0 (fun _ => true) true Tryd.f7.params.toList args.toList ds p := hA0
  have hsz := hsz0
  rw [Tryd.params7] at hA hval hsz
  obtain ⟨v0, vs0, d0, ds0, p0, q0, hargs, rfl, rfl, h0, r0⟩ := trodAll_cons hA
  obtain ⟨rfl, rfl, rfl⟩ := trodAll_nil r0
  obtain rfl : args = #[v0] := by cases args; simp_all
  obtain ⟨rfl, rfl⟩ := trodVars_none hV
  obtain ⟨a0, len0, cap0, rfl⟩ := okWide_slice Tryd.underlying22 (hval 0 22 v0 rfl rfl)
  have lt0 : ∀ x ∈ p0, x.block < W.heap.size := by obtain ⟨m, hm⟩ := h0; exact DataW.trod_lt m _ _ _ hm
  obtain ⟨xs0, s0, z0⟩ := lexs_of h0 (fun x hx => by simpa using List.all_eq_true.1 hsz x (DataW.weights_mem_each (j := 0) (t := 22) rfl rfl x hx))
  clear hA0
  refine (walk a0 len0 cap0 xs0 W (mx_of hSh) s0 z0).mono fun e W' ⟨he, bel⟩ => ?_
  subst he
  exact ⟨_, rfl, _, _, _, [], _, [], hW', trodAll_mk1 (shut_bool Tryd.underlying4 _), (trodAll_cons_mk (Below.trod laidOut (by kernel_rfl) (of_decide_eq_true (by kernel_rfl)) h0 bel lt0) trodAll_mk0), rfl, Below.frame bel _, fun h => by cases h⟩

theorem witness_row (os : Os) {H : Type} (enc : TypeId × Value → H) :
    (OpenSpec.ofChange Rows.lexiconCategoriesSpec).preRow enc Tryd.prog Tryd.f7 Rows.lexiconCategoriesRow.domain false Rows.lexiconCategoriesRow.laid ((laidWorld os).forCall (fun _ _ => 0) ⟨#[], #[.slice none 0 0], []⟩).memory #[.slice none 0 0] := by
  have hw : (DataW.whole enc Tryd.prog ((laidWorld os).forCall (fun _ _ => 0) ⟨#[], #[.slice none 0 0], []⟩).memory Tryd.f7.params.toList Rows.lexiconCategoriesSpec.vars false (#[.slice none 0 0] : Array Value).toList 8).map (fun x => (x.1, x.2.1)) =
      some ([.nil], []) := by kernel_rfl
  obtain ⟨⟨x1, x2, x3⟩, hx, hx1⟩ := Option.map_eq_some_iff.1 hw
  simp only [Prod.mk.injEq] at hx1
  obtain ⟨rfl, rfl⟩ := hx1
  exact OpenSpec.preRow_of_cond 8 hx (by kernel_rfl) (fun k hk => by cases hk) (by kernel_rfl) (laid_met os _)

set_option maxRecDepth 100000 in
theorem lifted (os : Os) (started : os.Started) (H : Type) (enc : TypeId × Value → H) (F : Stop.Interp) :
    ReturnsInHanded {} Tryd.checked os 7 .any ((OpenSpec.ofChange Rows.lexiconCategoriesSpec).preRow enc Tryd.prog Tryd.f7 Rows.lexiconCategoriesRow.domain false Rows.lexiconCategoriesRow.laid) (((OpenSpec.ofChange Rows.lexiconCategoriesSpec).at F).post enc Tryd.prog Tryd.f7 false true false false) := by
  refine returnsInHanded_of_row (C := Tryd.checked) (s := (OpenSpec.ofChange Rows.lexiconCategoriesSpec)) own started (by kernel_rfl) Tryd.func7
    (witness_row_atRef (enc := enc) (C := Tryd.checked) false (laidWorld os) #[.slice none 0 0] rfl (by kernel_rfl) (by kernel_rfl) (by kernel_rfl) (witness_row os enc)) ?_
  intro W base args ds gs before hval hW _ _ hsz _ hSh _
  exact contract H enc W base args ds gs before hval hW hsz hSh

theorem row : Rows.LexiconCategoriesSaid :=
  OpenClaim.holds_of_cond 7 Tryd.f7 rfl rfl rfl rfl rfl rfl rfl ⟨rfl, rfl, rfl, rfl, rfl⟩ rfl rfl rfl rfl rfl (by kernel_rfl) Tryd.func7 (by kernel_rfl)
    (of_decide_eq_true (by kernel_rfl)) (by unfold Func.isWrapper; rw [if_neg (of_decide_eq_false (by kernel_rfl))]; exact ⟨rfl, rfl⟩)
    (fun os started H enc _ F0 => by rw [OpenClaim.pre_eq_preRow]; exact lifted os started H enc F0)

/-- No parameter wants a stand-in; the program's own looks are off. -/
theorem plain (f : FuncId) (fn : Func) (hf : Tryd.pinned.checked.prog.funcNamed "pentaglot/pentaglotlaw09.LexiconCategories" = some f) (hfn : Tryd.pinned.checked.prog.funcs[f]? = some fn) :
    false = Tryd.pinned.checked.prog.looks [] ∧ ∀ (j : Nat) t, fn.params[j]? = some t → Tryd.pinned.checked.prog.wantsStandIn t = false := by
  obtain rfl : f = 7 := Option.some.inj ((show Tryd.prog.funcNamed "pentaglot/pentaglotlaw09.LexiconCategories" = some 7 by kernel_rfl).symm.trans hf) |>.symm
  obtain rfl : fn = Tryd.f7 := (Option.some.inj (Tryd.func7.symm.trans hfn)).symm
  refine ⟨by kernel_rfl, fun j t ht => ?_⟩
  rw [Tryd.params7] at ht
  have hm : t = 22 := by simpa using Array.mem_of_getElem? ht
  rcases hm with rfl
  · exact (show Tryd.prog.wantsStandIn 22 = false by kernel_rfl)

theorem proved : Rows.LexiconCategoriesCardSaid :=
  Claim7.holds_tied_plain_at .later [] _ _ _ _ row (fun _ h => by cases h) (by kernel_rfl) (fun _ h => by cases h) lexiconCategories_row_tie rfl ⟨rfl, rfl⟩ (by kernel_rfl) rfl plain (by kernel_rfl)
#print axioms proved
end Go.Proofs.YthoppaemlandaaaDoor.lawCats
