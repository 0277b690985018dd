/-
  Plain facts that later laws of layer 15 share. Conditions: as each theorem says.
-/
import Derived.Test.YtdehghmpfkhljaaDoorNumLawB
namespace Go.Proofs.YtdehghmpfkhljaaDoor
open Go.RowKit
open NumPlain

theorem words_neg (x : Nm) {n : Int} (h : n < 0) : wordsV x n = ([], 1) := by
  unfold wordsV
  rw [decide_eq_false (show ¬ 0 ≤ n by omega), Bool.and_false]
  rfl
theorem words_big {x : Nm} (hv : validB x = true) {n : Int} (h : 9999 < n) : wordsV x n = ([], 2) := by
  unfold wordsV
  rw [hv, decide_eq_true (show 0 ≤ n by omega)]
  show (if n ≤ 9999 then (wordsB x n.toNat, (0 : Int)) else ([], 2)) = _
  rw [if_neg (by omega)]
end Go.Proofs.YtdehghmpfkhljaaDoor
