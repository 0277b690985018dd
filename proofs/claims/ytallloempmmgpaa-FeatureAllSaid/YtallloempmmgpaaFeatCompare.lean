/-
  Compare, of the program and of the reference, compares two lists feature by feature, by name, then value; a list comes before its continuations. Condition: the slices hold the features.
-/
import Derived.Test.YtallloempmmgpaaFeatUnify
import Derived.Deep.RegionWith
import Derived.Deep.RegionHeld3
namespace Go.Proofs.Ytallloempmmgpaa
open Go.RowKit
open FeatPlain

/-- strings.Compare. -/
def cmpS (a b : ByteArray) : Int := if lt a b then -1 else if lt b a then 1 else 0
/-- The first of two numbers that is not 0. -/
def orI (x y : Int) : Int := if x = 0 then y else x
/-- Name, then value. -/
def cmpF (f g : Ft) : Int := orI (cmpS f.1 g.1) (cmpS f.2 g.2)
def cmpL : List Ft → List Ft → Int
  | [], [] => 0
  | [], _ :: _ => -1
  | _ :: _, [] => 1
  | f :: a, g :: b => orI (cmpF f g) (cmpL a b)

theorem compare_s (a b : ByteArray) (w : World) : Calls Try.prog 16 #[.string a, .string b] w fun e w' => e = .returned (.int .i64 (cmpS a b)) ∧ w = w' :=
  (compare_any a b w).mono fun _ _ ⟨he, hw⟩ => ⟨he, hw.symm⟩

set_option maxHeartbeats 800000 in
theorem or_any (b : Nat) (x y : Int) (w : World) (h0 : w.cell? ⟨b, 0, none⟩ = some (.int .i64 x)) (h1 : w.cell? ⟨b, 1, none⟩ = some (.int .i64 y)) :
    Calls Try.prog 43 #[.slice (some ⟨b, 0, none⟩) 2 2] w fun e w' => e = .returned (.int .i64 (orI x y)) ∧ w = w' := by
  by_cases hx : x = 0
  · have X := Lib.hid hx
    have bx : (x != 0) = false := by rw [hx]; rfl
    have bx' : (x == 0) = true := by rw [hx]; rfl
    clear hx
    by_cases hy : y = 0
    · have Y := Lib.hid hy
      have by1 : (y != 0) = false := by rw [hy]; rfl
      have by2 : (y == 0) = true := by rw [hy]; rfl
      clear hy
      go_enter Try.func43, Try.ntmps43
      go_wp2
      refine wp_loop_rounds 3 ?_
      rw [rounds_succ]
      go_wp2
      rw [rounds_succ]
      go_wp2
      rw [rounds_succ]
      go_wp2
      go_ret
      exact ⟨by rw [X.out, Y.out]; rfl, rfl⟩
    · have by1 : (y != 0) = true := by rw [bne_iff_ne]; exact hy
      have by2 : (y == 0) = false := by rw [beq_eq_false_iff_ne]; exact hy
      have Y := Lib.hid hy
      clear hy
      go_enter Try.func43, Try.ntmps43
      go_wp2
      refine wp_loop_rounds 2 ?_
      rw [rounds_succ]
      go_wp2
      rw [rounds_succ]
      go_wp2
      go_ret
      exact ⟨by rw [X.out]; rfl, rfl⟩
  · have bx : (x != 0) = true := by rw [bne_iff_ne]; exact hx
    have bx' : (x == 0) = false := by rw [beq_eq_false_iff_ne]; exact hx
    have X := Lib.hid hx
    clear hx
    go_enter Try.func43, Try.ntmps43
    go_wp2
    refine wp_loop_rounds 1 ?_
    rw [rounds_succ]
    go_wp2
    go_ret
    exact ⟨by rw [orI, if_neg X.out]; rfl, rfl⟩

def IntPost (w : World) (r : Int) (e : Ending) (w' : World) : Prop := e = .returned (.int .i64 r) ∧ Aft w w'

set_option maxHeartbeats 1600000 in
theorem compareF_any (f g : Ft) (w : World) :
    Calls Try.prog 36 #[.agg #[.string f.1, .string f.2], .agg #[.string g.1, .string g.2]] w (IntPost w (cmpF f g)) := by
  go_enter Try.func36, Try.ntmps36
  go_wp2
  have hA : Aft w ((w.alloc (.cells #[.string f.1, .string f.2] 30)).alloc (.cells #[.string g.1, .string g.2] 30)) := ((Aft.refl w).alloc _).alloc _
  have k1 : ((w.alloc (.cells #[.string f.1, .string f.2] 30)).alloc (.cells #[.string g.1, .string g.2] 30)).cell? ⟨w.heap.size, 0, none⟩ = some (.string f.1) := by simp
  have k2 : ((w.alloc (.cells #[.string f.1, .string f.2] 30)).alloc (.cells #[.string g.1, .string g.2] 30)).cell? ⟨w.heap.size, 1, none⟩ = some (.string f.2) := by simp
  have k3 : ((w.alloc (.cells #[.string f.1, .string f.2] 30)).alloc (.cells #[.string g.1, .string g.2] 30)).cell? ⟨w.heap.size + 1, 0, none⟩ = some (.string g.1) := by simp
  have k4 : ((w.alloc (.cells #[.string f.1, .string f.2] 30)).alloc (.cells #[.string g.1, .string g.2] 30)).cell? ⟨w.heap.size + 1, 1, none⟩ = some (.string g.2) := by simp
  generalize ((w.alloc (.cells #[.string f.1, .string f.2] 30)).alloc (.cells #[.string g.1, .string g.2] 30)) = W at hA k1 k2 k3 k4 ⊢
  go_region_held3 (fun w' => w'.cell? ⟨w.heap.size, 0, none⟩ = some (.string f.1) ∧ w'.cell? ⟨w.heap.size, 1, none⟩ = some (.string f.2) ∧ w'.cell? ⟨w.heap.size + 1, 0, none⟩ = some (.string g.1) ∧ w'.cell? ⟨w.heap.size + 1, 1, none⟩ = some (.string g.2)) (go_keep) (first | (go_at_call 16; refine (compare_s _ _ _).mono ?_; rintro e w' ⟨rfl, rfl⟩) | (go_at_call 43; refine (or_any W.heap.size (cmpS f.1 g.1) (cmpS f.2 g.2) _ (by simp) (by simp)).mono ?_; rintro e w' ⟨rfl, rfl⟩))
  go_wp2
  go_ret
  exact ⟨rfl, by first | exact (hA.alloc _).drew | exact hA.drew.alloc _ | exact (hA.drewN _).alloc _⟩

theorem cmpL_one {xs ys : List Ft} {k : Nat} {f g : Ft} (hf : xs[k]? = some f) (hg : ys[k]? = some g) : cmpL (xs.drop k) (ys.drop k) = orI (cmpF f g) (cmpL (xs.drop (k + 1)) (ys.drop (k + 1))) := by
  rw [drop_of_get hf, drop_of_get hg]; rfl
theorem cmpL_longer {xs ys : List Ft} {k : Nat} {f : Ft} (hf : xs[k]? = some f) (hy : ys.length ≤ k) : cmpL (xs.drop k) (ys.drop k) = 1 := by
  rw [drop_of_get hf, List.drop_of_length_le hy]; rfl
theorem cmpL_shorter {xs ys : List Ft} {k : Nat} (hx : xs.length ≤ k) (hy : k < ys.length) : cmpL (xs.drop k) (ys.drop k) = -1 := by
  rw [List.drop_of_length_le hx, List.drop_eq_getElem_cons hy]; rfl
theorem cmpL_same {xs ys : List Ft} {k : Nat} (hx : xs.length ≤ k) (hy : ys.length ≤ k) : cmpL (xs.drop k) (ys.drop k) = 0 := by
  rw [List.drop_of_length_le hx, List.drop_of_length_le hy]; rfl
theorem orI_zero {x y : Int} (h : x = 0) : orI x y = y := by rw [orI, if_pos h]
theorem orI_not {x y : Int} (h : x ≠ 0) : orI x y = x := by rw [orI, if_neg h]

end Go.Proofs.Ytallloempmmgpaa
