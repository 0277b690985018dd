/-
  The program's Rejoin returns the word without its hyphens. Condition: the word has at most 2000 bytes.
-/
import Derived.Test.YtfjfgjncmliadaaDoorSylRepl2
namespace Go.Proofs.YtfjfgjncmliadaaDoor
open Go.RowKit
open AlphPlain

set_option maxRecDepth 100000 in
set_option maxHeartbeats 800000 in
theorem rejoin_any (s : ByteArray) (w : World) (hs : s.size ≤ 2000) :
    Calls Tryd.prog 30 #[.string s] w (StrPost w (noHyB s)) := by
  have hA : ∀ w0, Calls Tryd.prog 50 #[.string s, .string ⟨#[45]⟩, .string ⟨#[]⟩] w0 (StrPost w0 (noHyB s)) := by
    intro w0
    go_enter Tryd.func50, Tryd.ntmps50
    go_wp2_with fail
    refine (replace_hy s w0 hs).mono ?_
    rintro e w1 ⟨rfl, N⟩
    go_wp2
    go_ret
    exact ⟨rfl, N⟩
  go_enter Tryd.func30, Tryd.ntmps30
  go_wp2_with fail
  refine (hA w).mono ?_
  rintro e w1 ⟨rfl, N⟩
  go_wp2
  go_ret
  exact ⟨rfl, N⟩
end Go.Proofs.YtfjfgjncmliadaaDoor
