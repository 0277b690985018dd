/-
  The reference's Vocabulary where the system is not valid; a search through a list of strings. Conditions: as each theorem says.
-/
import Derived.Test.YtdehghmpfkhljaaDoorNumRefV
import Derived.Test.YtdehghmpfkhljaaDoorNumVocP
namespace Go.Proofs.YtdehghmpfkhljaaDoor.Voc
open Go.RowKit
open NumPlain

theorem rw_empty_at (w : World) (g : Nat) : Rw sV w (some ⟨g, 0, none⟩) 0 0 ([] : List BA) := ⟨rfl, Nat.le_refl _, by omega, fun e => (by cases e), fun i u h => by simp at h⟩
def fndS (s : BA) (l : List BA) (k : Nat) : Bool := (l.take k).any (fun t => decide (t = s))
theorem fnds_next {s : BA} {l : List BA} {k : Nat} {t : BA} (h : l[k]? = some t) : fndS s l (k + 1) = (fndS s l k || decide (t = s)) := by
  unfold fndS
  rw [take_next h, List.any_append]
  simp
theorem fnds_all {s : BA} {l : List BA} {n : Nat} (h : l.length = n) (hj : s ∈ l) : fndS s l n = true := by
  unfold fndS
  rw [List.take_of_length_le (by omega), List.any_eq_true]
  exact ⟨s, hj, by simp⟩
set_option maxHeartbeats 800000 in
theorem refVoc_bad (x : Nm) (hv : validB x = false) (w : World) (hT : Tabs w) (hw : Nw w x) (hz : Sz x) (hzb : (Lit.int .i64 x.base).wf = true) :
    Calls Tryd.prog 28 #[nV x] w (fun e w' => (∃ g : Nat, e = .returned (.slice (some ⟨g, 0, none⟩) 0 0)) ∧ Aft w w') := by
  have AL : Aft w (w.alloc (.cells (nC x) 24)) := (Aft.refl w).alloc _
  have AN : Aft (w.alloc (.cells (nC x) 24)) ((w.alloc (.cells (nC x) 24)).alloc (.cells #[] 9)) := (Aft.refl _).alloc _
  have AM := AL.trans AN
  obtain ⟨c0, c1, c2, c3, c4, c5, c6, c7⟩ := (Bx.new w x 24).aft AN
  have h1 := refValid_any x _ (tabs_aft hT AM) (hw.aft AM) hz hzb
  rw [hv] at h1
  have H1 := Lib.hid h1
  clear hT hw h1 hv AL AN
  go_enter Tryd.func28, Tryd.ntmps28
  go_wp2_with fail
  refine H1.out.mono ?_
  rintro e w1 ⟨rfl, N1⟩
  go_wp2
  go_ret
  exact ⟨⟨_, rfl⟩, AM.trans N1⟩
end Go.Proofs.YtdehghmpfkhljaaDoor.Voc
