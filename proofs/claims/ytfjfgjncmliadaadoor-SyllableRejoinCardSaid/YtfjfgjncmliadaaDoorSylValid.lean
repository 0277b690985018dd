/-
  Valid; the plain word for Split's errors. Conditions: the slice holds the lists of masks.
-/
import Derived.Test.YtfjfgjncmliadaaDoorSylTest
namespace Go.Proofs.YtfjfgjncmliadaaDoor
open Go.RowKit Go.Maps
open AlphPlain

def marB (z : Int) : Bool := decide (1 ≤ z) && decide (z ≤ 8)
def validP (m : List (List Int)) (L R : Int) : Bool := decide (m.length ≤ 32) && !(m.any fun ms => decide (4 < ms.length)) && marB L && marB R

theorem margin_any (z : Int) (w : World) : Calls Tryd.prog 36 #[.int .i64 z] w (fun e w' => e = .returned (.bool (marB z)) ∧ w = w') := by
  by_cases h1 : 1 ≤ z <;> by_cases h8 : z ≤ 8 <;>
  · go_enter Tryd.func36, Tryd.ntmps36
    go_wp2
    go_ret
    exact ⟨by simp [marB, h1, h8], rfl⟩

theorem any_long {w : World} {A : Option Addr} {n c : Nat} {os : List Mk} (h : Ons w A n c os) : os.any (fun x => decide (4 < x.n)) = (masks os).any (fun ms => decide (4 < ms.length)) := by
  unfold masks
  rw [List.any_map]
  have : ∀ l : List Mk, (∀ x ∈ l, x ∈ os) → l.any (fun x => decide (4 < x.n)) = l.any ((fun ms : List Int => decide (4 < ms.length)) ∘ Mk.ms) := by
    intro l
    induction l with
    | nil => intro _; rfl
    | cons x l ih =>
      intro hx
      rw [List.any_cons, List.any_cons, ih (fun y hy => hx y (by simp [hy])), Function.comp, (h.each x (hx x (by simp))).len]
  exact this os (fun x hx => hx)

set_option maxRecDepth 100000 in
set_option maxHeartbeats 1600000 in
theorem validP_any (A : Option Addr) (n c : Nat) (os : List Mk) (L R : Int) (w : World) (ha : Ons w A n c os) :
    Calls Tryd.prog 16 #[pV A n c L R] w (BoolPost w (validP (masks os) L R)) := by
  have AL : Aft w (w.alloc (.cells #[.slice A n c, .int .i64 L, .int .i64 R] 24)) := (Aft.refl w).alloc _
  obtain ⟨t0, t1, t2⟩ := three_cells w (.slice A n c) (.int .i64 L) (.int .i64 R) 24
  have hl : (masks os).length = n := by simp [masks, ha.row.len]
  have hle := ha.row.le
  have hcm := ha.row.cmax
  have HV := Lib.hid (show validP (masks os) L R = (decide (n ≤ 32) && !(os.any fun x => decide (4 < x.n)) && marB L && marB R) by rw [any_long ha]; unfold validP; rw [hl])
  have H1 := Lib.hid (containsFunc0_any A n c os 34 (fun x => decide (4 < x.n)) _ (ha.aft AL).row (fun x hx => long_any x.a x.n x.c _ (by have := (ha.each x hx).le; have := (ha.each x hx).cmax; omega)) enterLong)
  clear ha hl
  by_cases h32 : n ≤ 32
  · have h32' : (n : Int) ≤ 32 := by omega
    rw [decide_eq_true h32] at HV
    cases hq : os.any (fun x => decide (4 < x.n))
    · rw [hq] at HV H1
      cases hL : marB L
      · rw [hL] at HV
        go_enter Tryd.func16, Tryd.ntmps16
        go_wp2_with fail
        refine H1.out.mono ?_
        rintro e w1 ⟨rfl, rfl⟩
        go_wp2_with fail
        have h2 := margin_any L
        rw [hL] at h2
        refine (h2 _).mono ?_
        rintro e w1 ⟨rfl, rfl⟩
        clear h2
        go_wp2
        go_ret
        exact ⟨by rw [HV.out]; rfl, AL⟩
      · rw [hL] at HV
        go_enter Tryd.func16, Tryd.ntmps16
        go_wp2_with fail
        refine H1.out.mono ?_
        rintro e w1 ⟨rfl, rfl⟩
        go_wp2_with fail
        have h2 := margin_any L
        rw [hL] at h2
        refine (h2 _).mono ?_
        rintro e w1 ⟨rfl, rfl⟩
        clear h2
        go_wp2_with fail
        have h3 := margin_any R
        generalize marB R = q at *
        refine (h3 _).mono ?_
        rintro e w1 ⟨rfl, rfl⟩
        clear h3
        go_wp2
        go_ret
        exact ⟨by rw [HV.out]; rfl, AL⟩
    · rw [hq] at HV H1
      go_enter Tryd.func16, Tryd.ntmps16
      go_wp2_with fail
      refine H1.out.mono ?_
      rintro e w1 ⟨rfl, rfl⟩
      go_wp2
      go_ret
      exact ⟨by rw [HV.out]; rfl, AL⟩
  · have h32' : ¬ (n : Int) ≤ 32 := by omega
    rw [decide_eq_false h32] at HV
    go_enter Tryd.func16, Tryd.ntmps16
    go_wp2
    go_ret
    exact ⟨by rw [HV.out]; simp, AL⟩

/-- Is the call of Split, Points or Heavy one without an error? -/
def okD (ls : List Lt) (m : List (List Int)) (L R : Int) (s : ByteArray) : Bool := validB ls && validP m L R && wordB ls s
end Go.Proofs.YtfjfgjncmliadaaDoor
