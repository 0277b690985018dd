/-
  slices.Values of features as an iterator. Conditions: the slice holds the features, at most 1000, and stays as it is while the loop runs.
-/
import Derived.Test.YtallloempmmgpaaAllStp
import Derived.RangeFuncNested
import Derived.RangeFuncBound
import Derived.RangeFuncCalls
import Derived.RangeFuncLeaves
import Derived.RangeFuncWrites
import Derived.Shelf.Abstract
import Derived.OwnWalkIn
import Derived.TacticsInMore
import Derived.LoopNIn
import Derived.LoopIn
namespace Go.Proofs.Ytallloempmmgpaa
open Go.RowKit Go.Shelf
open FeatPlain

attribute [local go_sem] Oper.semAt_some

theorem two_cells (w : World) (x y : Value) (t : TypeId) : (w.alloc (.cells #[x, y] t)).cell? ⟨w.heap.size, 0, none⟩ = some x ∧ (w.alloc (.cells #[x, y] t)).cell? ⟨w.heap.size, 1, none⟩ = some y := by
  constructor <;> simp
theorem grown_of_aft {w w' : World} (h : Aft w w') : w.grownBy w' none := ⟨h.os, h.tape, h.output, h.size, fun k hk _ => h.block k hk⟩

set_option maxRecDepth 100000 in
set_option maxHeartbeats 3200000 in
theorem valuesF_in (n : Nat) (hn : 1 ≤ n) (l Bs n₀ : Nat) (A : Option Addr) (cap N : Nat) (fs : List Ft) (J Jx : List Ft → World → Prop) (W : World)
    (hY : ∀ pre (x : Ft) W1, J pre W1 → pre.length < N → YieldAt Fence.wide (n - 1) Try.prog l #[.agg #[.string x.1, .string x.2]] W1 fun e W' =>
      (e = .returned (.bool true) ∧ J (pre ++ [x]) W' ∧ Below n₀ W1 W') ∨ (e = .returned (.bool false) ∧ Jx (pre ++ [x]) W'))
    (hBs : W.cell? ⟨Bs, 0, none⟩ = some (.slice A N cap)) (hsl : Sl W A N cap fs) (hlo : ∀ b off, A = some ⟨b, off, none⟩ → b < n₀) (hn0 : n₀ ≤ W.heap.size) (hJ : AbidesFrom W.heap.size J) (h0 : J [] W) (hfs : N ≤ 1000) :
    CallsIn Fence.wide n Try.prog 42 #[.func (.yield l) #[] #[], .pointer (some ⟨Bs, 0, none⟩)] W fun e W' => (∃ v, e = .returned v) ∧
      ((∃ ys, ys = fs ∧ J ys W') ∨ (∃ pre, pre <+: fs ∧ Jx pre W')) := by
  have HY := Lib.hid hY
  have HJ := Lib.hid hJ
  have hcm := hsl.cmax
  have hle := hsl.le
  have hlen := Lib.hid hsl.len
  clear hY hJ
  refine callsIn_of_wp Try.func42 rfl trivial ?_ rfl
  simp only [Try.ntmps42, List.size_toArray, List.length_cons, List.length_nil, Nat.reduceAdd, Nat.reduceSub, Array.replicate_succ, Array.replicate_zero, List.push_toArray, List.append_toArray, List.nil_append, List.cons_append]
  gi_wp2
  gi_loopw [7] (fun i wr => ∃ k : Nat, k ≤ N ∧ i = .int .i64 k ∧ J (fs.take k) wr ∧ Below n₀ W wr) (fun i _ => N - (intOf i).toNat)
  case atStart => exact ⟨0, Nat.zero_le _, rfl, h0, Below.refl _ _⟩
  case round =>
    clear h0 hBs
    obtain ⟨k, hk, rfl, hJs, hch⟩ := hrel
    by_cases hlt : k < N
    · obtain ⟨b, off, f, rfl, hf, k1, k2⟩ := hsl.at_ hlt
      have hb := hlo b off rfl
      have c1 : wr.cell? ⟨b, off + k * 2, none⟩ = some (.string f.1) := (hch.cell (p := ⟨b, off + k * 2, none⟩) hb).trans k1
      have c2 : wr.cell? ⟨b, off + k * 2 + 1, none⟩ = some (.string f.2) := (hch.cell (p := ⟨b, off + k * 2 + 1, none⟩) hb).trans k2
      have HF := Lib.hid hf
      have hkN : (k : Int) < (N : Int) := by omega
      have AL : Aft wr (wr.alloc (.cells #[.string f.1, .string f.2] 30)) := (Aft.refl wr).alloc _
      have tc := two_cells wr (.string f.1) (.string f.2) 30
      have hsz : n₀ ≤ wr.heap.size := Nat.le_trans hn0 hch.size
      obtain ⟨fn, tmps, assign, body, hy, hR⟩ := HY.out (fs.take k) f (wr.alloc (.cells #[.string f.1, .string f.2] 30)) (HJ.out _ _ _ none hJs (grown_of_aft AL) (fun r e => by cases e)) (by rw [List.length_take]; omega)
      clear k1 k2 hf
      gi_wp2
      refine hR.mono ?_
      rintro e' W3 (⟨rfl, hJ3, hk3⟩ | ⟨rfl, hJx3⟩)
      · gi_wp2
        go_roundw
        case rel => exact ⟨k + 1, by omega, by simp, by rw [take_next HF.out]; exact hJ3, (hch.trans ((Below.refl n₀ wr).alloc hsz _)).trans hk3⟩
        case measure => simp [intOf]; omega
      · gi_wp2
        refine bodyPost_ret (results_none rfl _ _ _) rfl ?_
        exact ⟨⟨_, rfl⟩, .inr ⟨_, by rw [← take_next HF.out]; exact List.take_prefix _ _, hJx3⟩⟩
    · obtain rfl : k = N := by omega
      gi_wp2
      go_end0
      exact ⟨⟨_, rfl⟩, .inl ⟨_, by rw [List.take_of_length_le (by rw [hlen.out]; exact Nat.le_refl _)], hJs⟩⟩

theorem valuesF_stops (n : Nat) (hn : 1 ≤ n) (Bs n₀ : Nat) (A : Option Addr) (cap N : Nat) (fs : List Ft) (w : World)
    (hBs : w.cell? ⟨Bs, 0, none⟩ = some (.slice A N cap)) (hsl : Sl w A N cap fs) (hlo : ∀ b off, A = some ⟨b, off, none⟩ → b < n₀) (hn0 : n₀ ≤ w.heap.size) (hfs : N ≤ 1000) :
    SeqStopsK Fence.wide n Try.prog 42 #[.pointer (some ⟨Bs, 0, none⟩)] (fun x : Ft => #[Value.agg #[.string x.1, .string x.2]]) (Below n₀) (fun xs => xs = fs) (fun pre => pre <+: fs) N w := fun l J Jx W hW hJ _ hY h0 => by
  have hA : Aft w W := hW
  exact valuesF_in n hn l Bs n₀ A cap N fs J Jx W hY (hA.cell hBs) (hsl.aft hA) hlo (Nat.le_trans hn0 hA.size) hJ h0 hfs
end Go.Proofs.Ytallloempmmgpaa
