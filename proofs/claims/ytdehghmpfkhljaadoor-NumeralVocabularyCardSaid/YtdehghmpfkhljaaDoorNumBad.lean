/-
  Clash and Vocabulary where the system is not valid. Conditions: the system lies where it says, its strings are no longer than a string can be; the tables of unicode/utf8 lie as their texts say.
-/
import Derived.Test.YtdehghmpfkhljaaDoorNumTok
namespace Go.Proofs.YtdehghmpfkhljaaDoor
open Go.RowKit
open NumPlain

set_option maxHeartbeats 800000 in
theorem clash_bad (x : Nm) (hv : validB x = false) (limit : Int) (w : World) (hT : Tabs w) (hw : Nw w x) (hz : Sz x) :
    Calls Tryd.prog 19 #[nV x, .int .i64 limit] w (fun e w' => e = .returned (.tuple #[.int .i64 0, .int .i64 0, .bool false]) ∧ Aft w w') := by
  have AL : Aft w (w.alloc (.cells (nC x) 24)) := (Aft.refl w).alloc _
  obtain ⟨c0, c1, c2, c3, c4, c5, c6, c7⟩ := Bx.new w x 24
  have h1 := valid_any x _ (tabs_aft hT AL) (hw.aft AL) hz
  rw [hv] at h1
  have H1 := Lib.hid h1
  clear hT hw h1 hv
  go_enter Tryd.func19, Tryd.ntmps19
  go_wp2_with fail
  refine H1.out.mono ?_
  rintro e w1 ⟨rfl, N1⟩
  go_wp2
  go_ret3
  exact ⟨rfl, AL.trans N1⟩
set_option maxHeartbeats 800000 in
theorem voc_bad (x : Nm) (hv : validB x = false) (w : World) (hT : Tabs w) (hw : Nw w x) (hz : Sz x) :
    Calls Tryd.prog 22 #[nV x] w (fun e w' => e = .returned (.slice none 0 0) ∧ Aft w w') := by
  have AL : Aft w (w.alloc (.cells (nC x) 24)) := (Aft.refl w).alloc _
  obtain ⟨c0, c1, c2, c3, c4, c5, c6, c7⟩ := Bx.new w x 24
  have h1 := valid_any x _ (tabs_aft hT AL) (hw.aft AL) hz
  rw [hv] at h1
  have H1 := Lib.hid h1
  clear hT hw h1 hv
  go_enter Tryd.func22, Tryd.ntmps22
  go_wp2_with fail
  refine H1.out.mono ?_
  rintro e w1 ⟨rfl, N1⟩
  go_wp2
  go_ret
  exact ⟨rfl, AL.trans N1⟩
end Go.Proofs.YtdehghmpfkhljaaDoor
