/-
  Index, Classes and Valid. Condition: the slice holds the letters; the rune is an int32.
-/
import Derived.Test.YtgnhkacndmdfgaaDoorAlphPos
namespace Go.Proofs.YtgnhkacndmdfgaaDoor
open Go.RowKit
open AlphPlain

/-- The index of the first letter with a rune, or -1. -/
def idxI (ls : List Lt) (r : Int) : Int := if AlphPlain.has ls r then ((pos ls r : Nat) : Int) else -1

theorem index_any (A : Option Addr) (n c : Nat) (ls : List Lt) (r : Int) (w : World) (ha : Ll w A n c ls) (hr : (Lit.int .i32 r).wf = true) :
    Calls Tryd.prog 20 #[.slice A n c, .int .i32 r] w (ValPost w (.int .i64 (idxI ls r))) := by
  go_enter Tryd.func20, Tryd.ntmps20
  go_wp2_with fail
  refine (positions_any A n c ls w ha).mono ?_
  rintro e w1 ⟨Bm, k, D, rfl, hp, A1⟩
  have hl := hp.run hr
  cases hh : AlphPlain.has ls r
  · rw [hh] at hl
    go_wp2
    go_ret
    exact ⟨by simp [idxI, hh], A1⟩
  · rw [hh] at hl
    go_wp2
    go_ret
    exact ⟨by simp [idxI, hh], A1⟩

theorem pos_get {ls : List Lt} {r : Int} (h : AlphPlain.has ls r = true) : ∃ l, ls[pos ls r]? = some l ∧ l.1 = r := by
  unfold AlphPlain.has at h
  unfold pos
  cases e : idx ls r with
  | none => rw [e] at h; cases h
  | some i => exact idx_lt e

/-- The classes of the first letter with a rune, or 0. -/
def clsOf (ls : List Lt) (r : Int) : Int := if AlphPlain.has ls r then (ls.getD (pos ls r) (0, 0)).2 else 0

theorem classes_any (A : Option Addr) (n c : Nat) (ls : List Lt) (r : Int) (w : World) (ha : Ll w A n c ls) (hr : (Lit.int .i32 r).wf = true) :
    Calls Tryd.prog 22 #[.slice A n c, .int .i32 r] w (ValPost w (.int .u32 (clsOf ls r))) := by
  have hn := ha.max
  have hnc := ha.le
  go_enter Tryd.func22, Tryd.ntmps22
  go_wp2_with fail
  have h1 := index_any A n c ls r w ha hr
  cases hh : AlphPlain.has ls r
  · have e : idxI ls r = -1 := by simp [idxI, hh]
    rw [e] at h1
    refine h1.mono ?_
    rintro e w1 ⟨rfl, A1⟩
    clear h1
    go_wp2
    go_ret
    exact ⟨by simp [clsOf, hh], A1⟩
  · have e : idxI ls r = (pos ls r : Nat) := by simp [idxI, hh]
    rw [e] at h1
    refine h1.mono ?_
    rintro e w1 ⟨rfl, A1⟩
    clear h1
    obtain ⟨l, hl, _⟩ := pos_get hh
    have hlt : pos ls r < n := by have := (List.getElem?_eq_some_iff.1 hl).1; have := ha.len; omega
    obtain ⟨b, off, l', rfl, hf, g1, g2⟩ := ha.at_ hlt
    obtain rfl : l = l' := by rw [hl] at hf; exact Option.some.inj hf
    have c2 := A1.cell g2
    have HC := Lib.hid (show clsOf ls r = l.2 by simp [clsOf, hh, List.getD, hl])
    generalize pos ls r = p at *
    go_wp2
    go_ret
    exact ⟨by rw [HC.out]; rfl, A1⟩

/-- Is it a rune that UTF-8 can write? -/
def okRune (r : Int) : Bool := (decide (0 ≤ r) && decide (r < 55296)) || (decide (57343 < r) && decide (r ≤ 1114111))

theorem validRune_any (r : Int) (w : World) :
    Calls Tryd.prog 39 #[.int .i32 r] w (fun e w' => e = .returned (.bool (okRune r)) ∧ w = w') := by
  by_cases h1 : 0 ≤ r <;> by_cases h2 : r < 55296 <;> by_cases h3 : 57343 < r <;> by_cases h4 : r ≤ 1114111 <;>
  · go_enter Tryd.func39, Tryd.ntmps39
    go_wp2
    go_ret
    exact ⟨by simp [okRune, h1, h2, h3, h4], rfl⟩

/-- Can it be a letter's rune? -/
def goodB (r : Int) : Bool := decide (32 < r) && okRune r
def validB (ls : List Lt) : Bool := decide (1 ≤ ls.length) && decide (ls.length ≤ 64) && ls.all (fun l => goodB l.1) && decide (cnt ls = ls.length)

theorem validB_bad {ls : List Lt} {l : Lt} {k : Nat} (h : ls[k]? = some l) (hb : goodB l.1 = false) : validB ls = false := by
  have : ls.all (fun l => goodB l.1) = false := by
    rw [List.all_eq_false]
    exact ⟨l, List.mem_of_getElem? h, by simp [hb]⟩
  simp [validB, this]
theorem validB_end {ls : List Lt} {n : Nat} (hl : ls.length = n) (h1 : ¬ n = 0) (h2 : ¬ 64 < n) (h : (ls.take n).all (fun l => goodB l.1) = true) : validB ls = decide (cnt ls = n) := by
  rw [List.take_of_length_le (by omega)] at h
  unfold validB
  rw [h, hl, decide_eq_true (show 1 ≤ n by omega), decide_eq_true (show n ≤ 64 by omega)]
  simp

set_option maxRecDepth 100000 in
set_option maxHeartbeats 1600000 in
theorem valid_any (A : Option Addr) (n c : Nat) (ls : List Lt) (w : World) (ha : Ll w A n c ls) :
    Calls Tryd.prog 18 #[.slice A n c] w (BoolPost w (validB ls)) := by
  have hn := ha.max
  have hnc := ha.le
  have hlen := Lib.hid ha.len
  by_cases h1 : n = 0
  · subst h1
    go_enter Tryd.func18, Tryd.ntmps18
    go_wp2
    go_ret
    exact ⟨by simp [validB, hlen.out], Aft.refl _⟩
  by_cases h2 : 64 < n
  · have h1' : ¬ (n : Int) = 0 := by omega
    have h2' : (64 : Int) < n := by omega
    go_enter Tryd.func18, Tryd.ntmps18
    go_wp2
    go_ret
    exact ⟨by simp [validB, hlen.out]; intro _ h; omega, Aft.refl _⟩
  have h1' : ¬ (n : Int) = 0 := by omega
  have h2' : ¬ (64 : Int) < n := by omega
  go_enter Tryd.func18, Tryd.ntmps18
  go_wp2
  go_loopw [15] (fun i wr => ∃ k, k ≤ n ∧ i = .int .i64 (k : Nat) ∧ (ls.take k).all (fun l => goodB l.1) = true ∧ Aft w wr) (fun i _ => n - (intOf i).toNat)
  case atStart => exact ⟨0, Nat.zero_le _, rfl, rfl, Aft.refl _⟩
  case round =>
    obtain ⟨k, hk, rfl, hall, haf⟩ := hrel
    have HA := Lib.hid hall
    clear hall
    by_cases hlt : k < n
    · obtain ⟨b, off, l, rfl, hf, g1, g2⟩ := ha.at_ hlt
      have c1 := haf.cell g1
      have c2 := haf.cell g2
      have HF := Lib.hid hf
      clear hf g1 g2
      by_cases h32 : l.1 ≤ 32
      · go_wp2
        go_ret
        exact ⟨by rw [validB_bad HF.out (by simp [goodB]; omega)]; rfl, haf.alloc _⟩
      · cases ho : okRune l.1
        · go_wp2_with fail
          have hv := validRune_any l.1
          rw [ho] at hv
          refine (hv _).mono ?_
          rintro e w1 ⟨rfl, rfl⟩
          clear hv
          go_wp2
          go_ret
          exact ⟨by rw [validB_bad HF.out (by simp [goodB, ho])]; rfl, haf.alloc _⟩
        · go_wp2_with fail
          have hv := validRune_any l.1
          rw [ho] at hv
          refine (hv _).mono ?_
          rintro e w1 ⟨rfl, rfl⟩
          clear hv
          go_wp2
          go_roundw
          case rel => exact ⟨k + 1, by omega, by go_num, by rw [take_next HF.out, List.all_append, HA.out]; simp [goodB, ho]; omega, haf.alloc _⟩
          case measure => simp [intOf]; omega
    · obtain rfl : k = n := by omega
      go_wp2_with fail
      refine (positions_any A k c ls wr (ha.aft haf)).mono ?_
      rintro e w1 ⟨Bm, j, D, rfl, hp, A1⟩
      have hl := fun ty => hp.own.len (t := 53) Tryd.underlying53 ty
      rw [hp.size] at hl
      go_wp2
      go_ret
      refine ⟨?_, haf.trans A1⟩
      rw [validB_end hlen.out h1 h2 HA.out]
      by_cases hc : cnt ls = k
      · simp [hc]
      · have hc' : ¬ (cnt ls : Int) = (k : Int) := by omega
        simp [hc, hc']

/-- The first letter with these classes. -/
def withCls : List Lt → Int → Option Int
  | [], _ => none
  | l :: a, c => if l.2 = c then some l.1 else withCls a c

/-- What is returned of an optional rune. -/
def optV (o : Option Int) : Value := match o with
  | some r => .tuple #[.int .i32 r, .bool true]
  | none => .tuple #[.int .i32 0, .bool false]

def partner (ls : List Lt) (r t : Int) : Option Int := if AlphPlain.has ls r then withCls ls (bits .xor .u32 (clsOf ls r) t) else none

set_option maxRecDepth 100000 in
set_option maxHeartbeats 800000 in
theorem partner_any (A : Option Addr) (n c : Nat) (ls : List Lt) (r t : Int) (w : World) (ha : Ll w A n c ls) (hr : (Lit.int .i32 r).wf = true) :
    Calls Tryd.prog 35 #[.slice A n c, .int .i32 r, .int .u32 t] w (ValPost w (optV (partner ls r t))) := by
  have hn := ha.max
  have hnc := ha.le
  have hlen := Lib.hid ha.len
  go_enter Tryd.func35, Tryd.ntmps35
  go_wp2_with fail
  have h1 := index_any A n c ls r w ha hr
  cases hh : AlphPlain.has ls r
  · have e : idxI ls r = -1 := by simp [idxI, hh]
    rw [e] at h1
    refine h1.mono ?_
    rintro e w1 ⟨rfl, A1⟩
    clear h1
    go_wp2
    go_ret2
    exact ⟨by simp [partner, hh, optV], A1⟩
  · have e : idxI ls r = (pos ls r : Nat) := by simp [idxI, hh]
    rw [e] at h1
    refine h1.mono ?_
    rintro e w1 ⟨rfl, A1⟩
    clear h1
    obtain ⟨l, hl, _⟩ := pos_get hh
    have hlt : pos ls r < n := by have := (List.getElem?_eq_some_iff.1 hl).1; have := ha.len; omega
    obtain ⟨b, off, l', rfl, hf, g1, g2⟩ := ha.at_ hlt
    obtain rfl : l = l' := by rw [hl] at hf; exact Option.some.inj hf
    have c2 := A1.cell g2
    have HC := Lib.hid (show partner ls r t = withCls ls (bits .xor .u32 l.2 t) by simp [partner, hh, clsOf, List.getD, hl])
    generalize pos ls r = p at *
    clear hl hf g1 hh
    go_wp2
    generalize bits .xor .u32 l.2 t = X at *
    go_loopw [26] (fun i wr => ∃ k, k ≤ n ∧ i = .int .i64 (k : Nat) ∧ withCls ls X = withCls (ls.drop k) X ∧ Aft w wr) (fun i _ => n - (intOf i).toNat)
    case atStart => exact ⟨0, Nat.zero_le _, rfl, rfl, A1⟩
    case round =>
      obtain ⟨k, hk, rfl, he, haf⟩ := hrel
      have HE := Lib.hid he
      clear he
      by_cases hlt : k < n
      · obtain ⟨b', off', m, hA, hf, g1, g2'⟩ := ha.at_ hlt
        simp only [Option.some.injEq, Addr.mk.injEq, and_true] at hA
        obtain ⟨rfl, rfl⟩ := hA
        have d1 := haf.cell g1
        have d2 := haf.cell g2'
        have HF := Lib.hid (drop_of_get hf)
        clear hf g1 g2'
        by_cases hX : m.2 = X
        · go_wp2
          go_ret2
          exact ⟨by rw [HC.out, HE.out, HF.out, withCls, if_pos hX]; rfl, haf.alloc _⟩
        · go_wp2
          go_roundw
          case rel => exact ⟨k + 1, by omega, by go_num, by rw [HE.out, HF.out, withCls, if_neg hX], haf.alloc _⟩
          case measure => simp [intOf]; omega
      · obtain rfl : k = n := by omega
        go_wp2
        go_ret2
        exact ⟨by rw [HC.out, HE.out, List.drop_of_length_le (by rw [hlen.out]; exact Nat.le_refl _)]; rfl, haf⟩
end Go.Proofs.YtgnhkacndmdfgaaDoor
