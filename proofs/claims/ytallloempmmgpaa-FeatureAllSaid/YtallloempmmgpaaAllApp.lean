/-
  slices.AppendSeq, Collect and SortedFunc over slices.Values of features. Conditions: the slice holds the features, at most 4, with distinct names.
-/
import Derived.Test.YtallloempmmgpaaAllColl
import Derived.Test.YtallloempmmgpaaAllSort
namespace Go.Proofs.Ytallloempmmgpaa
open Go.RowKit Go.Shelf
open FeatPlain

attribute [local go_sem] Oper.semAt_some

/-- Between two rounds: what has come lies in the row in the box. -/
structure AInv (w : World) (pre : List Ft) (W : World) : Prop where
  ex : ∃ a c, Boxed W w.heap.size 31 (.slice a pre.length c) ∧ W.ownsRow w.heap.size 30 2 (.slice a pre.length c) pre.length (flat pre)
  aft : Aft w W
theorem row_own {W W' : World} {base : Nat} {e : TypeId} {size : Nat} {v : Value} {n : Nat} {xs : List Value} {row : Option Nat} (h : W.ownsRow base e size v n xs) (hg : W.grownBy W' row) (hr : ∀ r, row = some r → ∃ o : Obj, W.heap[r]? = some o ∧ o.isCells = false) : W'.ownsRow base e size v n xs := by
  refine ⟨h.1, ?_⟩
  rcases h.2 with k | ⟨g, cap, cur, e1, e2, e3, e4⟩
  · exact .inl k
  · refine .inr ⟨g, cap, cur, e1, e2, (hg.block g (Array.getElem?_eq_some_iff.1 e3).1 (fun e => ?_)).trans e3, e4⟩
    obtain ⟨o, ho, hc⟩ := hr g e.symm
    rw [e3] at ho
    cases ho
    cases hc
theorem AInv.own {w W0 : World} (h : w.heap.size < W0.heap.size) : OwnFrom W0.heap.size (AInv w) := fun s A B row hs hg hr => by
  obtain ⟨a, c, h1, h2⟩ := hs.ex
  refine ⟨⟨a, c, h1.kept hg (fun e => by have := (hr _ e.symm).1; omega), row_own h2 hg (fun r e => (hr r e).2)⟩, hs.aft.grown hg (fun k e => by have := (hr _ e).1; omega)⟩

/-- The loop's variable in its box. -/
def AVar (w : World) (a0 : Act) (x : Ft) (a' : Act) (W : World) : Prop := ∃ Bx, w.heap.size < Bx ∧ W.heap[Bx]? = some (.cells #[.string x.1, .string x.2] 30 (0, 0)) ∧ a' = { tmps := (a0.tmps.setIfInBounds 7 (.agg #[.string x.1, .string x.2])).setIfInBounds 5 (.pointer (some ⟨Bx, 0, none⟩)), defers := [] }
theorem AVar.own {w W0 : World} {a0 : Act} (x : Ft) (a' : Act) : OwnFrom W0.heap.size (fun (_ : Unit) W => AVar w a0 x a' W) := fun s A B row hs hg hr => by
  obtain ⟨Bx, h1, h2, h3⟩ := hs
  refine ⟨Bx, h1, (hg.block Bx (Array.getElem?_eq_some_iff.1 h2).1 (fun e => ?_)).trans h2, h3⟩
  obtain ⟨_, o, ho, hc⟩ := hr Bx e.symm
  rw [h2] at ho
  cases ho
  cases hc

theorem name_actIn {F : Fence} {n : Nat} {P : Program} {c : Code} {Q : Exit → Act → World → Prop} {a : Act} {w : World} (h : ∀ a0, a0 = a → c.wpIn F n P Q a0 w) : c.wpIn F n P Q a w := h a rfl

set_option maxRecDepth 100000 in
set_option maxHeartbeats 3200000 in
theorem appSeq_any (Bs : Nat) (A : Option Addr) (cap N : Nat) (fs : List Ft) (w : World) (hBs : w.cell? ⟨Bs, 0, none⟩ = some (.slice A N cap)) (hsl : Sl w A N cap fs) (hlo : ∀ b off, A = some ⟨b, off, none⟩ → b < w.heap.size) (hfs : N ≤ 4) :
    Calls Try.prog 45 #[.slice none 0 0, .func (.func 42) #[] #[.pointer (some ⟨Bs, 0, none⟩)]] w
      (fun e w' => ∃ v, e = .returned v ∧ w'.ownsRow w.heap.size 30 2 v N (flat fs) ∧ Aft w w') := by
  obtain ⟨i0, hi, hz0, hz1, hz2⟩ := info_parts Try.infoF
  refine (callsIn_wide (n := 3)).1 ?_
  refine callsIn_of_wp_marks Try.func45 rfl trivial ?_ rfl
  simp only [Try.ntmps45, List.size_toArray, List.length_cons, List.length_nil, Nat.reduceAdd, Nat.reduceSub, Array.replicate_succ, Array.replicate_zero, List.push_toArray, List.append_toArray, List.nil_append, List.cons_append]
  gi_wp2
  have A0 : Aft w (w.alloc (.cells #[.slice none 0 0] 31)) := (Aft.refl w).alloc _
  have b0 := Boxed.new w 31 (.slice none 0 0)
  have hW0 : w.heap.size < (w.alloc (.cells #[.slice none 0 0] 31)).heap.size := by simp
  have hseq := valuesF_stops 2 (by omega) Bs w.heap.size A cap N fs _ (A0.cell hBs) (hsl.aft A0) hlo (Nat.le_of_lt hW0) (by omega)
  generalize w.alloc (.cells #[.slice none 0 0] 31) = W0 at *
  refine name_actIn (fun a0 ha0 => ?_)
  refine wpIn_rangeFunc_ownH rfl (by omega) (gf := 42) (lb := #[.pointer (some ⟨Bs, 0, none⟩)]) (by rw [ha0]; rfl) trivial (enters_of Try.func42 (by kernel_rfl) rfl)
    hseq (fun h k => h.trans k) (belowK_b (Nat.le_of_lt hW0)) (Below.refl _ _) (fun _ => rfl) (AInv w) (fun _ _ _ => False) (AInv.own hW0) (fun _ _ _ _ _ h _ _ => h) ⟨⟨none, 0, b0, World.ownsRow_nil _ _ _ _⟩, A0⟩
    (AVar w a0) (fun x a' => AVar.own x a') ?assign ?body ?done ?stop
  case assign =>
    rintro l pre x W K hI hK
    have hs := hI.aft.size
    obtain ⟨a, c, h1, h2⟩ := hI.ex
    have hB : Below w.heap.size W (W.alloc (.cells #[.string x.1, .string x.2] 30)) := (Below.refl _ W).alloc hs _
    have hI2 : AInv w pre (W.alloc (.cells #[.string x.1, .string x.2] 30)) := ⟨⟨a, c, h1.alloc _, h2.alloc _⟩, hI.aft.alloc _⟩
    have hlt := h1.lt
    have HK := Lib.hid hK
    clear hK
    subst ha0
    dsimp only
    gi_wp2
    exact HK.out _ _ ((KeepsOthers.alloc _ _).from _) hB hI2 ⟨W.heap.size, hlt, heap_alloc_new W _, rfl⟩
  case body =>
    rintro l pre x a' W hl hlr hI ⟨Bx, hBx, hbx, rfl⟩ hlen
    obtain ⟨a, c, h1, h2⟩ := hI.ex
    have hs := hI.aft.size
    have kb := h1.cell
    have x1 : W.cell? ⟨Bx, 0, none⟩ = some (.string x.1) := by rw [cell_of_block hbx]; rfl
    have x2 : W.cell? ⟨Bx, 1, none⟩ = some (.string x.2) := by rw [cell_of_block hbx]; rfl
    have hfa : (flat (pre ++ [x])) = flat pre ++ flat [x] := flat_append _ _
    have HFA := Lib.hid hfa
    clear hfa hlr
    subst ha0
    simp only [List.setIfInBounds_toArray, List.set_cons_zero, List.set_cons_succ]
    gi_wp2_with (gi_at_builtin; refine wpListIn_append_own _ rfl _ _ 31 rfl w.heap.size 30 i0 _ 2 32 Try.underlying31 hi hz0 hz1 hz2 rfl (by decide) _ _ _ rfl (h2.alloc _) ⟨W.heap.size, 0, none⟩ 1 1 (flat [x]) rfl rfl (one_cells W x) (flat_one _) (by unfold maxLen; omega) (by omega) (by simp; omega) ?_; intro v' w1 own1 grow1 _; obtain ⟨g1, c1, rfl⟩ := ownsRow_succ own1; obtain ⟨hv1, hv2, hr2, hk2, hb2⟩ := h1.appended (by decide) h2 hs (Nat.le_refl _) own1 grow1; have hc1 := hv1.cell; have hf1 := hv1.frozen)
    refine ⟨hk2.from _, hb2, ⟨⟨_, _, by rw [List.length_append]; exact hv2, by rw [List.length_append, HFA.out]; exact hr2⟩, ?_⟩⟩
    exact ⟨hb2.os.trans hI.aft.os, hb2.tape.trans hI.aft.tape, hb2.output.trans hI.aft.output, Nat.le_trans hI.aft.size hb2.size, fun k hk => (hb2.block k hk).trans (hI.aft.block k hk)⟩
  case done =>
    rintro D xs W hD hxs hI hK
    obtain ⟨a, c, h1, h2⟩ := hI.ex
    have hl := hsl.len
    subst hxs
    have kb := h1.cell
    subst ha0
    gi_wp2
    refine ⟨by simp, .inl ⟨_, _, rfl, run_takeDeferred hK, ?_⟩⟩
    refine ⟨_, results_tmp rfl _ _ _, _, rfl, by rw [← hl]; exact row_own h2 (grownBy_putObj' _ D _) (fun r e => by cases e; exact ⟨_, hK, rfl⟩), hI.aft.grown (grownBy_putObj' _ D _) (fun k e => by cases e; omega)⟩
  case stop =>
    rintro D c pre W _ _ h _
    exact h.elim

theorem values_any (v : Value) (a : Option Addr) (n c : Nat) (hv : v = .slice a n c) (w : World) :
    Calls Try.prog 35 #[v] w (fun e w' => e = .returned (.func (.func 42) #[] #[.pointer (some ⟨w.heap.size, 0, none⟩)]) ∧ w' = w.alloc (.cells #[v] 31)) := by
  subst hv
  go_enter Try.func35, Try.ntmps35
  go_wp2
  go_ret
  exact ⟨rfl, rfl⟩

set_option maxRecDepth 100000 in
set_option maxHeartbeats 800000 in
theorem ins0_any (a : Option Addr) (c : Nat) (w : World) : Calls Try.prog 48 #[.slice a 0 c, .int .i64 0, .int .i64 0, .func (.func 36) #[] #[]] w (fun e w' => e = .returned (.tuple #[]) ∧ Aft w w') := by
  go_enter Try.func48, Try.ntmps48
  go_wp2
  refine wp_loop_rounds 1 ?_
  rw [rounds_succ]
  go_wp2
  go_end0
  exact ⟨rfl, Aft.refl _⟩
set_option maxRecDepth 100000 in
set_option maxHeartbeats 800000 in
theorem pdq0_any (a : Option Addr) (c : Nat) (l : Int) (w : World) : Calls Try.prog 46 #[.slice a 0 c, .int .i64 0, .int .i64 0, .int .i64 l, .func (.func 36) #[] #[]] w (fun e w' => e = .returned (.tuple #[]) ∧ Aft w w') := by
  have h1 := fun w => ins0_any a c w
  have H1 := Lib.hid h1
  clear h1
  go_enter Try.func46, Try.ntmps46
  go_wp2
  refine wp_loop_rounds 1 ?_
  rw [rounds_succ]
  go_wp2_with fail
  refine (H1.out _).mono ?_
  rintro e w1 ⟨rfl, A1⟩
  go_wp2
  refine bodyPost_ret (results_none rfl _ _ _) rfl ?_
  exact ⟨rfl, A1⟩
set_option maxRecDepth 100000 in
set_option maxHeartbeats 800000 in
theorem sort0_any (a : Option Addr) (c : Nat) (w : World) : Calls Try.prog 41 #[.slice a 0 c, .func (.func 36) #[] #[]] w (fun e w' => e = .returned (.tuple #[]) ∧ Aft w w') := by
  have hl := hlen2 0
  go_enter Try.func41, Try.ntmps41
  go_wp2_with fail
  refine (hl _ (by omega)).mono ?_
  rintro e w1 ⟨⟨l, rfl⟩, rfl⟩
  go_wp2_with fail
  refine (pdq0_any a c l w1).mono ?_
  rintro e w2 ⟨rfl, A2⟩
  go_wp2
  go_end0
  exact ⟨rfl, A2⟩

theorem collect_any (Bs : Nat) (A : Option Addr) (cap N : Nat) (fs : List Ft) (w : World) (hBs : w.cell? ⟨Bs, 0, none⟩ = some (.slice A N cap)) (hsl : Sl w A N cap fs) (hlo : ∀ b off, A = some ⟨b, off, none⟩ → b < w.heap.size) (hfs : N ≤ 4) :
    Calls Try.prog 40 #[.func (.func 42) #[] #[.pointer (some ⟨Bs, 0, none⟩)]] w
      (fun e w' => ∃ a c, e = .returned (.slice a N c) ∧ w'.ownsRow w.heap.size 30 2 (.slice a N c) N (flat fs) ∧ Aft w w') := by
  have h1 := appSeq_any Bs A cap N fs w hBs hsl hlo hfs
  go_enter Try.func40, Try.ntmps40
  go_wp2_with fail
  refine h1.mono ?_
  rintro e w1 ⟨v, rfl, own, A1⟩
  clear h1
  obtain ⟨a, c, rfl⟩ : ∃ a c, v = .slice a N c := by
    rcases own.2 with ⟨rfl, rfl⟩ | ⟨g, cap, cur, rfl, _⟩
    · exact ⟨_, _, rfl⟩
    · exact ⟨_, _, rfl⟩
  go_wp2
  go_ret
  exact ⟨_, _, rfl, own, A1⟩

set_option maxHeartbeats 800000 in
/-- The record that is handed out: sorted, in a block of its own. -/
theorem sorted_any (Bs : Nat) (A : Option Addr) (cap N : Nat) (fs : List Ft) (w : World) (hBs : w.cell? ⟨Bs, 0, none⟩ = some (.slice A N cap)) (hsl : Sl w A N cap fs) (hlo : ∀ b off, A = some ⟨b, off, none⟩ → b < w.heap.size) (hfs : N ≤ 4) (hd : (fs.map (·.1)).Nodup) :
    Calls Try.prog 34 #[.func (.func 42) #[] #[.pointer (some ⟨Bs, 0, none⟩)], .func (.func 36) #[] #[]] w
      (fun e w' => ∃ a c, e = .returned (.slice a N c) ∧ Rec w' (.slice a N c, sortF fs) ∧ (∀ r, (Value.slice a N c).ownBlock = some r → w.heap.size ≤ r ∧ r < w'.heap.size) ∧ Aft w w') := by
  have hl := Lib.hid hsl.len
  have h1 := collect_any Bs A cap N fs w hBs hsl hlo hfs
  go_enter Try.func34, Try.ntmps34
  go_wp2_with fail
  refine h1.mono ?_
  rintro e w1 ⟨a, c, rfl, own, A1⟩
  clear h1
  by_cases h0 : N = 0
  · subst h0
    have hnil : fs = [] := List.length_eq_zero_iff.1 hl.out
    have hsort : Calls Try.prog 41 #[.slice a 0 c, .func (.func 36) #[] #[]] w1 (fun e w' => e = .returned (.tuple #[]) ∧ Aft w1 w') := sort0_any a c w1
    have hcc : c ≤ maxLen ∧ (a = none → c = 0) ∧ (∀ r, (Value.slice a 0 c).ownBlock = some r → w.heap.size ≤ r ∧ r < w1.heap.size) ∧ ∀ r, (Value.slice a 0 c).ownBlock = some r → ∃ cur, w1.heap[r]? = some (.cells cur 30 (0, 0)) := by
      refine ⟨?_, ?_, own.lt, fun r hr => by rcases own.2 with ⟨e, _⟩ | ⟨g, cap', cur, e, _, h3, _⟩ <;> cases e <;> cases hr; exact ⟨cur, h3⟩⟩
      · rcases own.2 with ⟨e, _⟩ | ⟨g, cap', cur, e, _, _, _, h2, _⟩
        · cases e; unfold maxLen; omega
        · cases e; exact h2
      · rintro rfl
        rcases own.2 with ⟨e, _⟩ | ⟨g, cap', cur, e, _⟩
        · cases e; rfl
        · cases e
    have HN := Lib.hid hnil
    clear hnil own
    go_wp2_with fail
    refine hsort.mono ?_
    rintro e w2 ⟨rfl, A2⟩
    clear hsort
    go_wp2
    go_ret
    refine ⟨a, c, rfl, ⟨a, 0, c, rfl, ?_, by omega, fun r hr => ?_⟩, fun r hr => ?_, A1.trans A2⟩
    · rw [HN.out]
      exact Sl.nil (by have := hcc.1; unfold maxLen at this; omega) hcc.2.1
    · obtain ⟨cur, hc⟩ := hcc.2.2.2 r hr
      exact ⟨cur, (A2.block r (Array.getElem?_eq_some_iff.1 hc).1).trans hc⟩
    · have := hcc.2.2.1 r hr
      exact ⟨this.1, Nat.lt_of_lt_of_le this.2 A2.size⟩
  · obtain ⟨g, rfl⟩ : ∃ g, a = some ⟨g, 0, none⟩ := by
      rcases own.2 with ⟨_, e⟩ | ⟨g, cap', cur, e, _⟩
      · exact absurd e h0
      · cases e; exact ⟨g, rfl⟩
    have hg := own.lt g rfl
    have hsort := sortF_any g N c fs w w1 own hl.out hfs hd A1
    clear own
    go_wp2_with fail
    refine hsort.mono ?_
    rintro e w2 ⟨rfl, s2, hb2, A2⟩
    clear hsort
    have hlt : g < w2.heap.size := by
      have hsl2 := s2.len
      obtain ⟨b, off, f, e1, _, k1, _⟩ := s2.at_ (k := 0) (by omega)
      cases e1
      exact World.block_lt_of_cell? w2 _ k1
    go_wp2
    go_ret
    exact ⟨_, _, rfl, ⟨_, _, _, rfl, s2, hfs, fun r hr => by cases hr; exact hb2⟩, fun r hr => by cases hr; exact ⟨hg.1, hlt⟩, A2⟩
end Go.Proofs.Ytallloempmmgpaa
