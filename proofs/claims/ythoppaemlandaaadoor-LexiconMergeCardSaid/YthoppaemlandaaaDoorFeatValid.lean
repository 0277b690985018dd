/-
  Valid (of the program and of the reference) returns whether a list of features is a valid record. Condition: the slice holds the features, and no string is longer than any string can be.
-/
import Derived.Test.YthoppaemlandaaaDoorFeatName
namespace Go.Proofs.YthoppaemlandaaaDoor
open Go.RowKit
open FeatPlain

/-- No string is too long. -/
def Sized (fs : List Ft) : Prop := ∀ f ∈ fs, f.1.size ≤ maxLen ∧ f.2.size ≤ maxLen
theorem Sized.get {fs : List Ft} (h : Sized fs) {k : Nat} {f : Ft} (hk : fs[k]? = some f) : f.1.size ≤ maxLen ∧ f.2.size ≤ maxLen := h f (List.mem_of_getElem? hk)

def named (f : Ft) : Bool := isName f.1 && isName f.2
/-- A valid record. -/
def validB (fs : List Ft) : Bool := decide (fs.length ≤ 8) && (fs.all named && ascB fs)

/-- The first k features have names, and are in order. -/
def OkTo (fs : List Ft) (k : Nat) : Prop := (fs.take k).all named = true ∧ ∀ j f g, j + 1 < k → fs[j]? = some f → fs[j + 1]? = some g → lt f.1 g.1 = true

theorem okTo_zero (fs : List Ft) : OkTo fs 0 := ⟨by simp, fun j _ _ h => by omega⟩

theorem okTo_first {fs : List Ft} {f : Ft} (hf : fs[0]? = some f) (hn : named f = true) : OkTo fs 1 :=
  ⟨by rw [List.take_add_one, hf]; simp [hn], fun j _ _ h => by omega⟩

theorem okTo_next {fs : List Ft} {k : Nat} {f g : Ft} (h : OkTo fs (k + 1)) (hf : fs[k]? = some f) (hg : fs[k + 1]? = some g) (hn : named g = true) (hl : lt f.1 g.1 = true) : OkTo fs (k + 1 + 1) := by
  refine ⟨by rw [List.take_add_one, List.all_append, h.1, hg]; simp [hn], fun j x y hj hx hy => ?_⟩
  by_cases e : j = k
  · subst e
    rw [hf] at hx; rw [hg] at hy
    cases hx; cases hy
    exact hl
  · exact h.2 j x y (by omega) hx hy

theorem ascB_get : ∀ (l : List Ft), ascB l = true ↔ ∀ j f g, l[j]? = some f → l[j + 1]? = some g → lt f.1 g.1 = true
  | [] => by simp [ascB]
  | [x] => by simp [ascB]
  | x :: y :: l => by
    have ih := ascB_get (y :: l)
    simp only [ascB, Bool.and_eq_true, ih]
    constructor
    · rintro ⟨h, k⟩ j f g hf hg
      match j with
      | 0 => simp at hf hg; subst hf; subst hg; exact h
      | j + 1 => exact k j f g (by simpa using hf) (by simpa using hg)
    · intro h
      exact ⟨h 0 x y rfl rfl, fun j f g hf hg => h (j + 1) f g (by simpa using hf) (by simpa using hg)⟩

theorem valid_end {fs : List Ft} (h : OkTo fs fs.length) (hl : fs.length ≤ 8) : validB fs = true := by
  have h1 : fs.all named = true := by have := h.1; rwa [List.take_length] at this
  have h2 : ascB fs = true := (ascB_get fs).2 fun j f g hf hg => h.2 j f g (List.getElem?_eq_some_iff.1 hg).1 hf hg
  unfold validB
  simp [h1, h2, hl]

theorem valid_long {fs : List Ft} (hl : ¬ fs.length ≤ 8) : validB fs = false := by simp [validB, hl]
theorem valid_bad {fs : List Ft} {k : Nat} {f : Ft} (hf : fs[k]? = some f) (hn : named f = false) : validB fs = false := by
  have : fs.all named = false := List.all_eq_false.2 ⟨f, List.mem_of_getElem? hf, by simp [hn]⟩
  simp [validB, this]
theorem valid_order {fs : List Ft} {k : Nat} {f g : Ft} (hf : fs[k]? = some f) (hg : fs[k + 1]? = some g) (hl : lt f.1 g.1 = false) : validB fs = false := by
  have : ascB fs = false := by
    cases e : ascB fs
    · rfl
    · have := (ascB_get fs).1 e k f g hf hg; rw [hl] at this; cases this
  simp [validB, this]

set_option maxRecDepth 100000 in
set_option maxHeartbeats 1600000 in
theorem valid_any (A : Option Addr) (n c : Nat) (xs : List Ft) (w : World) (ha : Sl w A n c xs) (hz : Sized xs) :
    Calls Tryd.prog 46 #[.slice A n c] w (BoolPost w (validB xs)) := by
  have hn := ha.max
  have hnc := ha.le
  have hlen := Lib.hid ha.len
  by_cases h8 : n ≤ 8
  · go_enter Tryd.func46, Tryd.ntmps46
    go_wp2
    go_loopw [10] (fun i wr => ∃ k, k ≤ n ∧ i = .int .i64 (k : Nat) ∧ OkTo xs k ∧ Aft w wr) (fun i _ => n - (intOf i).toNat)
    case atStart => exact ⟨0, Nat.zero_le _, rfl, okTo_zero _, Aft.refl _⟩
    case round =>
      obtain ⟨k, hk, rfl, hok, haf⟩ := hrel
      by_cases hlt : k < n
      · obtain ⟨b, off, f, rfl, hf, h1, h2⟩ := ha.at_ hlt
        have c1 := haf.cell h1
        have c2 := haf.cell h2
        have hz1 := hz.get hf
        have HF := Lib.hid hf
        clear hf h1 h2
        by_cases n1 : isName f.1 = true
        · by_cases n2 : isName f.2 = true
          · have hnm : named f = true := by simp [named, n1, n2]
            cases k with
            | zero =>
              simp only [Nat.zero_mul, Nat.add_zero] at c1 c2
              go_wp2_with fail
              refine (isName_any _ _ hz1.1).mono ?_
              rintro e w1 ⟨rfl, rfl⟩
              go_wp2_with fail
              refine (isName_any _ _ hz1.2).mono ?_
              rintro e w1 ⟨rfl, rfl⟩
              go_wp2
              go_quiet (fail)
              go_wp2
              go_roundw
              case rel => exact ⟨1, by omega, rfl, okTo_first HF.out hnm, (haf.alloc _).drewN _⟩
              case measure => simp [intOf]; omega
            | succ j =>
              obtain ⟨b', off', g, hA, hg, g1, g2⟩ := ha.at_ (show j < n by omega)
              simp only [Option.some.injEq, Addr.mk.injEq, and_true] at hA
              obtain ⟨rfl, rfl⟩ := hA
              have d1 := fun o => (haf.alloc o).cell g1
              have HG := Lib.hid hg
              clear hg g1 g2
              have hw : IntKind.i64.wrap (j : Int) = (j : Int) := by rw [IntKind.wrap_i64]; omega
              have hj : (j : Int) < (n : Int) := by omega
              by_cases hgf : lt g.1 f.1 = true
              · have hq : Op.bytesLess g.1.toList f.1.toList = true := hgf
                go_wp2_with fail
                refine (isName_any _ _ hz1.1).mono ?_
                rintro e w1 ⟨rfl, rfl⟩
                go_wp2_with fail
                refine (isName_any _ _ hz1.2).mono ?_
                rintro e w1 ⟨rfl, rfl⟩
                go_wp2
                go_quiet (fail)
                go_wp2
                go_roundw
                case rel => exact ⟨j + 1 + 1, by omega, by go_num, okTo_next hok HG.out HF.out hnm hgf, (haf.alloc _).drewN _⟩
                case measure => simp [intOf]; omega
              · have hq : Op.bytesLess g.1.toList f.1.toList = false := by simpa [lt] using hgf
                go_wp2_with fail
                refine (isName_any _ _ hz1.1).mono ?_
                rintro e w1 ⟨rfl, rfl⟩
                go_wp2_with fail
                refine (isName_any _ _ hz1.2).mono ?_
                rintro e w1 ⟨rfl, rfl⟩
                go_wp2
                go_quiet (fail)
                go_wp2
                go_ret
                exact ⟨by rw [valid_order HG.out HF.out (by simpa using hgf)]; rfl, (haf.alloc _).drewN _⟩
          · have hnm : named f = false := by simp [named, n2]
            have n2' : isName f.2 = false := by simpa using n2
            clear n2
            go_wp2_with fail
            refine (isName_any _ _ hz1.1).mono ?_
            rintro e w1 ⟨rfl, rfl⟩
            go_wp2_with fail
            refine (isName_any _ _ hz1.2).mono ?_
            rintro e w1 ⟨rfl, rfl⟩
            go_wp2
            go_ret
            exact ⟨by rw [valid_bad HF.out hnm]; rfl, haf.alloc _⟩
        · have hnm : named f = false := by simp [named, n1]
          have n1' : isName f.1 = false := by simpa using n1
          clear n1
          go_wp2_with fail
          refine (isName_any _ _ hz1.1).mono ?_
          rintro e w1 ⟨rfl, rfl⟩
          go_wp2
          go_ret
          exact ⟨by rw [valid_bad HF.out hnm]; rfl, haf.alloc _⟩
      · obtain rfl : k = n := by omega
        go_wp2
        go_ret
        refine ⟨?_, haf⟩
        rw [valid_end (by rw [hlen.out]; exact hok) (by rw [hlen.out]; exact h8)]
        rfl
  · have hb : (8 : Int) < (n : Int) := by omega
    go_enter Tryd.func46, Tryd.ntmps46
    go_wp2
    go_ret
    exact ⟨by rw [valid_long (by rw [hlen.out]; exact h8)]; rfl, Aft.refl _⟩
end Go.Proofs.YthoppaemlandaaaDoor
