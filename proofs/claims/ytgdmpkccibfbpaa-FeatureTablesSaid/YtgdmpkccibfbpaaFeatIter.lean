/-
  The iterator over the values of the entries of a table whose records subsume a record. Conditions: the slice holds the entries, fewer than 1000; the record stays as it is while the loop runs.
-/
import Derived.Test.YtgdmpkccibfbpaaFeatTabAdd
import Derived.RangeFuncNested
import Derived.RangeFuncBound
import Derived.RangeFuncCalls
import Derived.RangeFuncLeaves
import Derived.RangeFuncWrites
import Derived.Shelf.Abstract
import Derived.OwnWalkIn
import Derived.TacticsInMore
import Derived.LoopNIn
import Derived.LoopIn
namespace Go.Proofs.Ytgdmpkccibfbpaa
open Go.RowKit Go.Shelf
open FeatPlain

attribute [local go_sem] Oper.semAt_some

/-- The values of the entries whose records subsume ys. -/
def hits (es : List En) (ys : List Ft) : List Int := (es.filter fun e => subs e.1 ys).map (·.2)
theorem hits_yes {es : List En} {ys : List Ft} {k : Nat} {e : En} (h : es[k]? = some e) (hs : subs e.1 ys = true) : hits (es.take (k + 1)) ys = hits (es.take k) ys ++ [e.2] := by
  rw [List.take_add_one, h]
  simp [hits, hs]
theorem hits_no {es : List En} {ys : List Ft} {k : Nat} {e : En} (h : es[k]? = some e) (hs : subs e.1 ys = false) : hits (es.take (k + 1)) ys = hits (es.take k) ys := by
  rw [List.take_add_one, h]
  simp [hits, hs]
theorem hits_pre (es : List En) (ys : List Ft) (k : Nat) : hits (es.take k) ys <+: hits es ys := by
  conv => rhs; rw [← List.take_append_drop k es]
  unfold hits
  rw [List.filter_append, List.map_append]
  exact List.prefix_append _ _
theorem hits_lt {es : List En} {ys : List Ft} {k : Nat} {e : En} (h : es[k]? = some e) (hs : subs e.1 ys = true) : (hits (es.take k) ys).length < (hits es ys).length := by
  have h1 := (hits_pre es ys (k + 1)).length_le
  rw [hits_yes h hs, List.length_append] at h1
  simp at h1
  omega

theorem two_cells (w : World) (x y : Value) (t : TypeId) : (w.alloc (.cells #[x, y] t)).cell? ⟨w.heap.size, 0, none⟩ = some x ∧ (w.alloc (.cells #[x, y] t)).cell? ⟨w.heap.size, 1, none⟩ = some y := by
  constructor <;> simp
theorem grown_of_aft {w w' : World} (h : Aft w w') : w.grownBy w' none := ⟨h.os, h.tape, h.output, h.size, fun k hk _ => h.block k hk⟩

theorem Chg.keepsK {ts : List TypeId} {B : Nat} {w : World} (hB : B ≤ w.heap.size) (W : World) (l : Nat) (o o' : Obj) (hl : w.heap.size ≤ l) (h : W.heap[l]? = some o) (hc : o.isCells = false) (_ : o.isWalk = false) : Chg ts B W (W.putObj l o') := by
  have g := grownBy_putObj' W l o'
  refine ⟨g.os, g.tape, g.output, g.size, fun k hk => g.block k ?_ (fun e => by cases e; omega), fun k cur t _ hk => (g.block k (Array.getElem?_eq_some_iff.1 hk).1 (fun e => ?_)).trans hk⟩
  · have := (Array.getElem?_eq_some_iff.1 h).1
    omega
  · cases e
    rw [h] at hk
    cases hk
    cases hc

set_option maxRecDepth 100000 in
set_option maxHeartbeats 3200000 in
theorem iter_in (n : Nat) (hn : 1 ≤ n) (l Be Br B0 Bx : Nat) (v : Value) (vs : List Value) (es : List En) (Bq : Option Addr) (m d : Nat) (ys : List Ft) (J Jx : List Int → World → Prop) (W : World)
    (hY : ∀ pre x W1, J pre W1 → pre.length < (hits es ys).length → YieldAt Fence.wide (n - 1) Try.prog l #[.int .i64 x] W1 fun e W' =>
      (e = .returned (.bool true) ∧ J (pre ++ [x]) W' ∧ Chg [3] B0 W1 W') ∨ (e = .returned (.bool false) ∧ Jx (pre ++ [x]) W'))
    (hBe : Boxed W Be 56 v) (hrow : W.ownsRow Bx 61 2 v es.length vs) (hen : Ents W vs es) (hBr : Boxed W Br 29 (.slice Bq m d))
    (hq : ∀ W', Chg [3] B0 W W' → Sl W' Bq m d ys) (hB0 : B0 ≤ W.heap.size) (hJ : AbidesFrom W.heap.size J) (h0 : J [] W) (hes : es.length ≤ 1000) :
    CallsIn Fence.wide n Try.prog 41 #[.func (.yield l) #[] #[], .pointer (some ⟨Be, 0, none⟩), .pointer (some ⟨Br, 0, none⟩)] W fun e W' => (∃ v, e = .returned v) ∧
      ((∃ ys', ys' = hits es ys ∧ J ys' W') ∨ (∃ pre, pre <+: hits es ys ∧ Jx pre W')) := by
  obtain ⟨va, vc, rfl, hvc⟩ := EnRow.len ⟨vs, hrow, hen⟩
  have hce := hBe.cell
  have HQ := Lib.hid hq
  have HY := Lib.hid hY
  have HJ := Lib.hid hJ
  have HR := Lib.hid hrow
  have HEN := Lib.hid hen
  obtain ⟨N, hN⟩ : ∃ N, N = es.length := ⟨_, rfl⟩
  have HN := Lib.hid hN
  have hN1 : N ≤ 1000 := by omega
  have hNc : N ≤ vc := by omega
  rw [← hN] at hce
  clear hq hY hJ hrow hen hN hes hvc
  refine callsIn_of_wp Try.func41 rfl trivial ?_ rfl
  simp only [Try.ntmps41, List.size_toArray, List.length_cons, List.length_nil, Nat.reduceAdd, Nat.reduceSub, Array.replicate_succ, Array.replicate_zero, List.push_toArray, List.append_toArray, List.nil_append, List.cons_append]
  gi_wp2
  gi_loopw [8] (fun i wr => ∃ k : Nat, k ≤ N ∧ i = .int .i64 k ∧ J (hits (es.take k) ys) wr ∧ Chg [3] B0 W wr) (fun i _ => N - (intOf i).toNat)
  case atStart => exact ⟨0, Nat.zero_le _, rfl, h0, Chg.refl _ _ _⟩
  case round =>
    clear h0 hce
    obtain ⟨k, hk, rfl, hJs, hch⟩ := hrel
    by_cases hlt : k < N
    · obtain ⟨e, he⟩ : ∃ e, es[k]? = some e := ⟨_, List.getElem?_eq_getElem (by rw [← HN.out]; exact hlt)⟩
      have hrow2 := hch.row HR.out (by decide)
      obtain ⟨cv, k1, k2, k3⟩ := (HEN.out.chg hch (by decide)).at_ he
      obtain ⟨ca, cc, rfl, hsl⟩ := k3.sl
      obtain ⟨g, rfl⟩ : ∃ g, va = some ⟨g, 0, none⟩ := by
        rcases hrow2.2 with ⟨e1, e2⟩ | ⟨g, cap, cur, e1, _⟩
        · have := HN.out; omega
        · cases e1; exact ⟨g, rfl⟩
      have c1 : wr.cell? ⟨g, k * 2, none⟩ = some (.slice ca e.1.length cc) := by rw [hrow2.cellAt _ (by have := HN.out; omega)]; exact k1
      have c2 : wr.cell? ⟨g, k * 2 + 1, none⟩ = some (.int .i64 e.2) := by rw [hrow2.cellAt _ (by have := HN.out; omega)]; exact k2
      have hbr := (hch.box hBr (by decide)).cell
      have HE := Lib.hid he
      have hkN : (k : Int) < (N : Int) := by omega
      clear hrow2 k1 k2 he
      have hbr2 := ((hch.box hBr (by decide)).alloc (.cells #[.slice ca e.1.length cc, .int .i64 e.2] 61)).cell
      have AL : Aft wr (wr.alloc (.cells #[.slice ca e.1.length cc, .int .i64 e.2] 61)) := (Aft.refl wr).alloc _
      have hBw : B0 ≤ wr.heap.size := Nat.le_trans hB0 hch.size
      have hsq := HQ.out _ (hch.trans (Chg.of_aft AL hBw))
      have hcall := subs_any ca e.1.length cc e.1 Bq m d ys _ (hsl.aft AL) hsq
      have tc := two_cells wr (.slice ca e.1.length cc) (.int .i64 e.2) 61
      cases hs : subs e.1 ys
      · rw [hs] at hcall
        have HC := Lib.hid hcall
        clear hcall hsq k3 hsl
        gi_wp2_with (refine ⟨trivial, ?_⟩; gi_at_call 19; refine (callsIn_wide.2 HC.out).mono ?_; rintro e' w1 ⟨rfl, A1⟩)
        have AW := AL.trans A1
        refine ⟨fun _ h => (by cases h), ?_⟩
        gi_wp2
        go_roundw
        case rel => exact ⟨k + 1, by omega, by simp, by rw [hits_no HE.out hs]; exact HJ.out _ _ _ none hJs (grown_of_aft AW) (fun r e => by cases e), hch.trans (Chg.of_aft AW hBw)⟩
        case measure => simp [intOf]; omega
      · rw [hs] at hcall
        have HC := Lib.hid hcall
        clear hcall hsq k3 hsl
        gi_wp2_with (refine ⟨trivial, ?_⟩; gi_at_call 19; refine (callsIn_wide.2 HC.out).mono ?_; rintro e' w1 ⟨rfl, A1⟩; have AW := AL.trans A1; have cy := A1.cell tc.2; obtain ⟨fn, tmps, assign, body, hy, hR⟩ := HY.out _ e.2 w1 (HJ.out _ _ _ none hJs (grown_of_aft AW) (fun r e => by cases e)) (hits_lt HE.out hs))
        refine hR.mono ?_
        rintro e' W3 (⟨rfl, hJ3, hk3⟩ | ⟨rfl, hJx3⟩)
        · gi_wp2
          go_roundw
          case rel => exact ⟨k + 1, by omega, by simp, by rw [hits_yes HE.out hs]; exact hJ3, (hch.trans (Chg.of_aft AW hBw)).trans hk3⟩
          case measure => simp [intOf]; omega
        · gi_wp2
          refine bodyPost_ret (results_none rfl _ _ _) rfl ?_
          exact ⟨⟨_, rfl⟩, .inr ⟨_, by rw [← hits_yes HE.out hs]; exact hits_pre _ _ _, hJx3⟩⟩
    · obtain rfl : k = N := by omega
      gi_wp2
      go_end0
      exact ⟨⟨_, rfl⟩, .inl ⟨_, by rw [List.take_of_length_le (by rw [← HN.out]; exact Nat.le_refl _)], hJs⟩⟩
end Go.Proofs.Ytgdmpkccibfbpaa
