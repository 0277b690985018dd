/-
  Find and Matches of a table of features, and the reference's Subsumes. Conditions: the table holds its entries, at most 1000; the slices hold the features.
-/
import Derived.Test.YtgdmpkccibfbpaaFeatIter
namespace Go.Proofs.Ytgdmpkccibfbpaa
open Go.RowKit Go.Shelf
open FeatPlain

attribute [local go_sem] Oper.semAt_some

theorem matching_any (v : Value) (Bq : Option Addr) (m d : Nat) (a : Option Addr) (n c : Nat) (hv : v = .slice a n c) (w : World) :
    Calls Try.prog 26 #[v, .slice Bq m d] w (fun e w' => e = .returned (.func (.func 41) #[] #[.pointer (some ⟨w.heap.size, 0, none⟩), .pointer (some ⟨w.heap.size + 1, 0, none⟩)]) ∧
      w' = (w.alloc (.cells #[v] 56)).alloc (.cells #[.slice Bq m d] 29)) := by
  subst hv
  go_enter Try.func26, Try.ntmps26
  go_wp2
  go_ret
  exact ⟨rfl, rfl⟩

theorem iter_stops (n : Nat) (hn : 1 ≤ n) (Be Br B0 Bx : Nat) (v : Value) (es : List En) (Bq : Option Addr) (m d : Nat) (ys : List Ft) (w : World)
    (hBe : Boxed w Be 56 v) (hrow : EnRow w Bx v es) (hBr : Boxed w Br 29 (.slice Bq m d))
    (hq : ∀ W', Chg [3] B0 w W' → Sl W' Bq m d ys) (hB0 : B0 ≤ w.heap.size) (hes : es.length ≤ 1000) :
    SeqStopsK Fence.wide n Try.prog 41 #[.pointer (some ⟨Be, 0, none⟩), .pointer (some ⟨Br, 0, none⟩)] (fun x : Int => #[Value.int .i64 x]) (Chg [3] B0) (fun xs => xs = hits es ys) (fun pre => pre <+: hits es ys) (hits es ys).length w := fun l J Jx W hW hJ _ hY h0 => by
  have hA : Aft w W := hW
  have c := Chg.of_aft (ts := []) hA hB0
  obtain ⟨vs, hr, hen⟩ := hrow
  exact iter_in n hn l Be Br B0 Bx v vs es Bq m d ys J Jx W hY (c.box hBe (by simp)) (c.row hr (by simp)) (hen.chg c (by simp)) (c.box hBr (by simp)) (fun W' k => hq W' ((Chg.of_aft hA hB0).trans k)) (Nat.le_trans hB0 hA.size) hJ h0 hes

/-- A slice of features keeps its features where only later memory changes. -/
theorem Sl.chg {ts : List TypeId} {w w' : World} {A : Option Addr} {n c : Nat} {fs : List Ft} (h : Sl w A n c fs) (k : Chg ts w.heap.size w w') : Sl w' A n c fs :=
  h.aft (k.aft0 (Aft.refl w) (Nat.le_refl _))

/-- How Find returns: its results are in two boxes. -/
theorem find_ret {w W : World} {D : Nat} {x : Int} {b : Bool} {tmps : Array Value} {r : Value} (hD : w.heap.size + 1 < D) (hK : W.heap[D]? = some (.deferred (some [])))
    (b0 : Boxed W w.heap.size 3 (.int .i64 x)) (b1 : Boxed W (w.heap.size + 1) 4 (.bool b)) (hA : Aft w W) (hr : r = .tuple #[.int .i64 x, .bool b]) (h4 : tmps[4]? = some (.pointer (some ⟨w.heap.size, 0, none⟩))) (h5 : tmps[5]? = some (.pointer (some ⟨w.heap.size + 1, 0, none⟩))) :
    bodyPostM Fence.wide 3 Try.prog Try.f13 (fun e w' => e = .returned r ∧ Aft w w') .ret { tmps := tmps, defers := [{ target := .collected D, args := #[] }] } W := by
  subst hr
  refine ⟨by simp, .inl ⟨_, _, rfl, run_takeDeferred hK, ?_⟩⟩
  have hg := grownBy_putObj' W D (.deferred none)
  have e0 := (b0.kept hg (fun e => by cases e; omega)).cell
  have e1 := (b1.kept hg (fun e => by cases e; omega)).cell
  refine ⟨.tuple #[.int .i64 x, .bool b], ?_, rfl, hA.grown hg (fun k e => by cases e; omega)⟩
  simp [results, Try.f13, go_sem, e0, e1, h4, h5]

set_option maxRecDepth 100000 in
set_option maxHeartbeats 3200000 in
theorem find_any (B T : Nat) (es : List En) (Bq : Option Addr) (m d : Nat) (ys : List Ft) (w : World) (h : Tb w B T es) (hq : Sl w Bq m d ys) (hes : es.length ≤ 1000) :
    Calls Try.prog 13 #[.pointer (some ⟨T, 0, none⟩), .slice Bq m d] w (fun e w' => e = .returned (.tuple #[.int .i64 ((hits es ys).head?.getD 0), .bool (!(hits es ys).isEmpty)]) ∧ Aft w w') := by
  obtain ⟨v, bx, hr⟩ := h
  obtain ⟨va, vc, rfl, hvc⟩ := hr.len
  have HM := fun w => matching_any (.slice va es.length vc) Bq m d va es.length vc rfl w
  have HM := Lib.hid HM
  have hc0 := ((bx.alloc (.cells #[.int .i64 0] 3)).alloc (.cells #[.bool false] 4)).cell
  refine (callsIn_wide (n := 3)).1 ?_
  refine callsIn_of_wp_marks Try.func13 rfl trivial ?_ rfl
  simp only [Try.ntmps13, List.size_toArray, List.length_cons, List.length_nil, Nat.reduceAdd, Nat.reduceSub, Array.replicate_succ, Array.replicate_zero, List.push_toArray, List.append_toArray, List.nil_append, List.cons_append]
  gi_wp2_with (refine ⟨trivial, ?_⟩; gi_at_call 26; refine (callsIn_wide.2 (HM.out _)).mono ?_; rintro e' w1 ⟨rfl, rfl⟩)
  have bI := Boxed.new w 3 (.int .i64 0)
  have bO := Boxed.new (w.alloc (.cells #[.int .i64 0] 3)) 4 (.bool false)
  have bE := Boxed.new ((w.alloc (.cells #[.int .i64 0] 3)).alloc (.cells #[.bool false] 4)) 56 (.slice va es.length vc)
  have bQ := Boxed.new (((w.alloc (.cells #[.int .i64 0] 3)).alloc (.cells #[.bool false] 4)).alloc (.cells #[.slice va es.length vc] 56)) 29 (.slice Bq m d)
  simp only [World.size_alloc] at bO bE bQ
  have hA0 : Aft w ((((w.alloc (.cells #[.int .i64 0] 3)).alloc (.cells #[.bool false] 4)).alloc (.cells #[.slice va es.length vc] 56)).alloc (.cells #[.slice Bq m d] 29)) := ((((Aft.refl w).alloc _).alloc _).alloc _).alloc _
  have hc1 := ((bI.alloc (.cells #[.bool false] 4)).alloc (.cells #[.slice va es.length vc] 56)).alloc (.cells #[.slice Bq m d] 29)
  have hc2 := (bO.alloc (.cells #[.slice va es.length vc] 56)).alloc (.cells #[.slice Bq m d] 29)
  refine wpIn_rangeFunc_ownG rfl (by omega) (gf := 41) (lb := #[.pointer (some ⟨w.heap.size + 1 + 1, 0, none⟩), .pointer (some ⟨w.heap.size + 1 + 1 + 1, 0, none⟩)]) rfl trivial (enters_of Try.func41 (by kernel_rfl) rfl)
    (iter_stops 2 (by omega) (w.heap.size + 1 + 1) (w.heap.size + 1 + 1 + 1) w.heap.size B _ es Bq m d ys _ (bE.alloc _) (hr.chg (ts := []) (Chg.of_aft hA0 (Nat.le_refl _)) (by simp) (by simp)) bQ (fun W' k => hq.chg ((Chg.of_aft hA0 (Nat.le_refl _)).trans k)) (by simp; omega) hes)
    (fun h k => h.trans k) (Chg.keepsK (by simp; omega)) (Below.refl _ _) (fun _ => rfl)
    (fun pre W => pre = [] ∧ Boxed W w.heap.size 3 (.int .i64 0) ∧ Boxed W (w.heap.size + 1) 4 (.bool false) ∧ Aft w W)
    (fun c pre W => c = .ret ∧ (∃ x : Int, pre = [x] ∧ Boxed W w.heap.size 3 (.int .i64 x) ∧ Boxed W (w.heap.size + 1) 4 (.bool true)) ∧ Aft w W)
    (fun s X Y row hs hg hr => ⟨hs.1, hs.2.1.kept hg (fun e => by have := (hr _ e.symm).1; simp at this; omega), hs.2.2.1.kept hg (fun e => by have := (hr _ e.symm).1; simp at this; omega), hs.2.2.2.grown hg (fun k e => by have := (hr _ e).1; simp at this; omega)⟩)
    (fun c s X Y row hs hg hr => by
      obtain ⟨h1, ⟨x, h2, h3, h4⟩, h5⟩ := hs
      exact ⟨h1, ⟨x, h2, h3.kept hg (fun e => by have := (hr _ e.symm).1; simp at this; omega), h4.kept hg (fun e => by have := (hr _ e.symm).1; simp at this; omega)⟩, h5.grown hg (fun k e => by have := (hr _ e).1; simp at this; omega)⟩)
    ⟨rfl, hc1, hc2, hA0⟩
    (fun x => { tmps := #[.pointer (some ⟨T, 0, none⟩), .slice Bq m d, undef, undef, .pointer (some ⟨w.heap.size, 0, none⟩), .pointer (some ⟨w.heap.size + 1, 0, none⟩), .int .i64 x, undef, .pointer (some ⟨T, 0, none⟩), .pointer (some ⟨T, 0, none⟩), .pointer (some ⟨T, 0, none⟩), .slice va es.length vc, .slice Bq m d,
      .func (.func 41) #[] #[.pointer (some ⟨w.heap.size + 1 + 1, 0, none⟩), .pointer (some ⟨w.heap.size + 1 + 1 + 1, 0, none⟩)], .int .i64 x, undef, undef], defers := [] }) ?assign ?body ?done ?stop
  case assign =>
    intro l x W K hK
    gi_wp2
    exact hK
  case body =>
    rintro l pre x W ⟨rfl, b0, b1, hA⟩ _
    have k0 := b0.cell
    have f0 := b0.frozen
    have b1' := b1.kept (grownBy_setCell' W w.heap.size (.int .i64 x)) (by simp)
    have k1 := b1'.cell
    have f1 := b1'.frozen
    gi_wp2
    refine ⟨((KeepsOthers.setCell _ _ _).trans (KeepsOthers.setCell _ _ _)).from _, rfl, ⟨x, rfl, (b0.set _).kept (grownBy_setCell' _ (w.heap.size + 1) _) (by simp), b1'.set _⟩, ?_⟩
    exact (hA.setCell (p := ⟨w.heap.size, 0, none⟩) (Nat.le_refl _) _).setCell (p := ⟨w.heap.size + 1, 0, none⟩) (by simp) _
  case done =>
    rintro D zs W hD hz ⟨rfl, b0, b1, hA⟩ hK
    have k0 := b0.cell
    have f0 := b0.frozen
    have b1' := b1.kept (grownBy_setCell' W w.heap.size (.int .i64 0)) (by simp)
    have k1 := b1'.cell
    have f1 := b1'.frozen
    have b0' := (b0.set (.int .i64 0)).other (B' := w.heap.size + 1) (by omega) (.bool false)
    have b1'' := b1'.set (.bool false)
    have A2 := (hA.setCell (p := ⟨w.heap.size, 0, none⟩) (Nat.le_refl _) (.int .i64 0)).setCell (p := ⟨w.heap.size + 1, 0, none⟩) (by simp) (.bool false)
    have hK2 := ((KeepsOthers.setCell W ⟨w.heap.size, 0, none⟩ (.int .i64 0)).trans (KeepsOthers.setCell _ ⟨w.heap.size + 1, 0, none⟩ (.bool false))).same D _ hK rfl
    have hz' : hits es ys = [] := hz.symm
    have HZ := Lib.hid hz'
    clear hz hz'
    gi_wp2
    exact find_ret (by simp at hD; omega) hK2 b0' b1'' A2 (by rw [HZ.out]; rfl) rfl rfl
  case stop =>
    rintro D c pre W hD hpre ⟨rfl, ⟨x, rfl, b0, b1⟩, hA⟩ hK
    have hz : hits es ys ≠ [] ∧ (hits es ys).head? = some x := by
      obtain ⟨s, hs⟩ := hpre
      rw [← hs]
      simp
    have HZ := Lib.hid hz
    clear hz hpre
    gi_wp2
    exact find_ret (by simp at hD; omega) hK b0 b1 hA (by rw [HZ.out.2]; simp [HZ.out.1]) rfl rfl
end Go.Proofs.Ytgdmpkccibfbpaa
