/-
  Index, Classes and Valid. Condition: the slice holds the letters; the rune is an int32.
-/
import Derived.Test.YtfjfgjncmliadaaDoorAlphPos
namespace Go.Proofs.YtfjfgjncmliadaaDoor
open Go.RowKit
open AlphPlain

/-- The index of the first letter with a rune, or -1. -/
def idxI (ls : List Lt) (r : Int) : Int := if AlphPlain.has ls r then ((pos ls r : Nat) : Int) else -1

theorem pos_get {ls : List Lt} {r : Int} (h : AlphPlain.has ls r = true) : ∃ l, ls[pos ls r]? = some l ∧ l.1 = r := by
  unfold AlphPlain.has at h
  unfold pos
  cases e : idx ls r with
  | none => rw [e] at h; cases h
  | some i => exact idx_lt e

/-- The classes of the first letter with a rune, or 0. -/
def clsOf (ls : List Lt) (r : Int) : Int := if AlphPlain.has ls r then (ls.getD (pos ls r) (0, 0)).2 else 0

/-- Is it a rune that UTF-8 can write? -/
def okRune (r : Int) : Bool := (decide (0 ≤ r) && decide (r < 55296)) || (decide (57343 < r) && decide (r ≤ 1114111))

theorem validRune_any (r : Int) (w : World) :
    Calls Tryd.prog 70 #[.int .i32 r] w (fun e w' => e = .returned (.bool (okRune r)) ∧ w = w') := by
  by_cases h1 : 0 ≤ r <;> by_cases h2 : r < 55296 <;> by_cases h3 : 57343 < r <;> by_cases h4 : r ≤ 1114111 <;>
  · go_enter Tryd.func70, Tryd.ntmps70
    go_wp2
    go_ret
    exact ⟨by simp [okRune, h1, h2, h3, h4], rfl⟩

/-- Can it be a letter's rune? -/
def goodB (r : Int) : Bool := decide (32 < r) && okRune r
def validB (ls : List Lt) : Bool := decide (1 ≤ ls.length) && decide (ls.length ≤ 64) && ls.all (fun l => goodB l.1) && decide (cnt ls = ls.length)

theorem validB_bad {ls : List Lt} {l : Lt} {k : Nat} (h : ls[k]? = some l) (hb : goodB l.1 = false) : validB ls = false := by
  have : ls.all (fun l => goodB l.1) = false := by
    rw [List.all_eq_false]
    exact ⟨l, List.mem_of_getElem? h, by simp [hb]⟩
  simp [validB, this]
theorem validB_end {ls : List Lt} {n : Nat} (hl : ls.length = n) (h1 : ¬ n = 0) (h2 : ¬ 64 < n) (h : (ls.take n).all (fun l => goodB l.1) = true) : validB ls = decide (cnt ls = n) := by
  rw [List.take_of_length_le (by omega)] at h
  unfold validB
  rw [h, hl, decide_eq_true (show 1 ≤ n by omega), decide_eq_true (show n ≤ 64 by omega)]
  simp

set_option maxRecDepth 100000 in
set_option maxHeartbeats 1600000 in
theorem valid_any (A : Option Addr) (n c : Nat) (ls : List Lt) (w : World) (ha : Ll w A n c ls) :
    Calls Tryd.prog 61 #[.slice A n c] w (BoolPost w (validB ls)) := by
  have hn := ha.max
  have hnc := ha.le
  have hlen := Lib.hid ha.len
  by_cases h1 : n = 0
  · subst h1
    go_enter Tryd.func61, Tryd.ntmps61
    go_wp2
    go_ret
    exact ⟨by simp [validB, hlen.out], Aft.refl _⟩
  by_cases h2 : 64 < n
  · have h1' : ¬ (n : Int) = 0 := by omega
    have h2' : (64 : Int) < n := by omega
    go_enter Tryd.func61, Tryd.ntmps61
    go_wp2
    go_ret
    exact ⟨by simp [validB, hlen.out]; intro _ h; omega, Aft.refl _⟩
  have h1' : ¬ (n : Int) = 0 := by omega
  have h2' : ¬ (64 : Int) < n := by omega
  go_enter Tryd.func61, Tryd.ntmps61
  go_wp2
  go_loopw [15] (fun i wr => ∃ k, k ≤ n ∧ i = .int .i64 (k : Nat) ∧ (ls.take k).all (fun l => goodB l.1) = true ∧ Aft w wr) (fun i _ => n - (intOf i).toNat)
  case atStart => exact ⟨0, Nat.zero_le _, rfl, rfl, Aft.refl _⟩
  case round =>
    obtain ⟨k, hk, rfl, hall, haf⟩ := hrel
    have HA := Lib.hid hall
    clear hall
    by_cases hlt : k < n
    · obtain ⟨b, off, l, rfl, hf, g1, g2⟩ := ha.at_ hlt
      have c1 := haf.cell g1
      have c2 := haf.cell g2
      have HF := Lib.hid hf
      clear hf g1 g2
      by_cases h32 : l.1 ≤ 32
      · go_wp2
        go_ret
        exact ⟨by rw [validB_bad HF.out (by simp [goodB]; omega)]; rfl, haf.alloc _⟩
      · cases ho : okRune l.1
        · go_wp2_with fail
          have hv := validRune_any l.1
          rw [ho] at hv
          refine (hv _).mono ?_
          rintro e w1 ⟨rfl, rfl⟩
          clear hv
          go_wp2
          go_ret
          exact ⟨by rw [validB_bad HF.out (by simp [goodB, ho])]; rfl, haf.alloc _⟩
        · go_wp2_with fail
          have hv := validRune_any l.1
          rw [ho] at hv
          refine (hv _).mono ?_
          rintro e w1 ⟨rfl, rfl⟩
          clear hv
          go_wp2
          go_roundw
          case rel => exact ⟨k + 1, by omega, by go_num, by rw [take_next HF.out, List.all_append, HA.out]; simp [goodB, ho]; omega, haf.alloc _⟩
          case measure => simp [intOf]; omega
    · obtain rfl : k = n := by omega
      go_wp2_with fail
      refine (positions_any A k c ls wr (ha.aft haf)).mono ?_
      rintro e w1 ⟨Bm, j, D, rfl, hp, A1⟩
      have hl := fun ty => hp.own.len (t := 103) Tryd.underlying103 ty
      rw [hp.size] at hl
      go_wp2
      go_ret
      refine ⟨?_, haf.trans A1⟩
      rw [validB_end hlen.out h1 h2 HA.out]
      by_cases hc : cnt ls = k
      · simp [hc]
      · have hc' : ¬ (cnt ls : Int) = (k : Int) := by omega
        simp [hc, hc']

/-- The first letter with these classes. -/
def withCls : List Lt → Int → Option Int
  | [], _ => none
  | l :: a, c => if l.2 = c then some l.1 else withCls a c

/-- What is returned of an optional rune. -/
def optV (o : Option Int) : Value := match o with
  | some r => .tuple #[.int .i32 r, .bool true]
  | none => .tuple #[.int .i32 0, .bool false]

def partner (ls : List Lt) (r t : Int) : Option Int := if AlphPlain.has ls r then withCls ls (bits .xor .u32 (clsOf ls r) t) else none

end Go.Proofs.YtfjfgjncmliadaaDoor
