/-
  The reference's Good, Index, Classes and Valid, and few. Condition: the slices hold the letters and the strings; the rune is an int32.
-/
import Derived.Test.YtfjfgjncmliadaaDoorAlphWords
namespace Go.Proofs.YtfjfgjncmliadaaDoor
open Go.RowKit
open AlphPlain

theorem goodB_cases (r : Int) : goodB r = (decide (32 < r) && decide (r ≤ 1114111) && (decide (r < 55296) || decide (57343 < r))) := by
  unfold goodB okRune
  by_cases h1 : 32 < r <;> by_cases h2 : r ≤ 1114111 <;> by_cases h3 : r < 55296 <;> by_cases h4 : 57343 < r <;> by_cases h5 : 0 ≤ r <;> simp [h1, h2, h3, h4, h5] <;> omega

theorem refGood_any (r : Int) (w : World) : Calls Tryd.prog 72 #[.int .i32 r] w (fun e w' => e = .returned (.bool (goodB r)) ∧ w = w') := by
  rw [goodB_cases]
  by_cases h1 : 32 < r <;> by_cases h2 : r ≤ 1114111 <;> by_cases h3 : r < 55296 <;> by_cases h4 : 57343 < r <;>
  · go_enter Tryd.func72, Tryd.ntmps72
    go_wp2
    go_ret
    exact ⟨by simp [h1, h2, h3, h4], rfl⟩

theorem idx_drop {ls : List Lt} {r : Int} {k : Nat} {l : Lt} (hn : ∀ j m, j < k → ls[j]? = some m → m.1 ≠ r) (hk : ls[k]? = some l) (e : l.1 = r) : idx ls r = some k := by
  cases h : idx ls r with
  | none =>
    exfalso
    obtain ⟨j, hj, _⟩ := idx_le hk
    rw [e, h] at hj; cases hj
  | some i =>
    obtain ⟨m, hm, he⟩ := idx_lt h
    obtain ⟨j, hj, hle⟩ := idx_le hk
    rw [e, h] at hj
    cases hj
    rcases Nat.lt_or_ge i k with hlt | hge
    · exact absurd he (hn i m hlt hm)
    · have : i = k := by omega
      rw [this]
theorem idx_absent {ls : List Lt} {r : Int} (hn : ∀ j m, j < ls.length → ls[j]? = some m → m.1 ≠ r) : idx ls r = none := by
  cases h : idx ls r with
  | none => rfl
  | some i =>
    obtain ⟨m, hm, he⟩ := idx_lt h
    exact absurd he (hn i m (List.getElem?_eq_some_iff.1 hm).1 hm)
theorem idxI_some {ls : List Lt} {r : Int} {k : Nat} (h : idx ls r = some k) : idxI ls r = k := by simp [idxI, AlphPlain.has, pos, h]
theorem idxI_none {ls : List Lt} {r : Int} (h : idx ls r = none) : idxI ls r = -1 := by simp [idxI, AlphPlain.has, h]

set_option maxRecDepth 100000 in
set_option maxHeartbeats 800000 in
theorem refIndex_any (A : Option Addr) (n c : Nat) (ls : List Lt) (r : Int) (w : World) (ha : Ll w A n c ls) :
    Calls Tryd.prog 53 #[.slice A n c, .int .i32 r] w (ValPost w (.int .i64 (idxI ls r))) := by
  have hn := ha.max
  have hnc := ha.le
  have hlen := Lib.hid ha.len
  go_enter Tryd.func53, Tryd.ntmps53
  go_wp2
  go_loopw [5] (fun i wr => ∃ k, k ≤ n ∧ i = .int .i64 (k : Nat) ∧ (∀ j m, j < k → ls[j]? = some m → m.1 ≠ r) ∧ Aft w wr) (fun i _ => n - (intOf i).toNat)
  case atStart => exact ⟨0, Nat.zero_le _, rfl, fun j m h => by omega, Aft.refl _⟩
  case round =>
    obtain ⟨k, hk, rfl, he, haf⟩ := hrel
    have HE := Lib.hid he
    clear he
    by_cases hlt : k < n
    · obtain ⟨b, off, l, rfl, hf, h1, h2⟩ := ha.at_ hlt
      have c1 := haf.cell h1
      have HF := Lib.hid hf
      clear hf h1 h2
      by_cases hq : l.1 = r
      · have HI := Lib.hid (idxI_some (idx_drop HE.out HF.out hq))
        go_wp2
        go_ret
        exact ⟨by rw [HI.out]; rfl, haf⟩
      · go_wp2
        go_roundw
        case rel =>
          refine ⟨k + 1, by omega, by go_num, fun j m hj hm => ?_, haf⟩
          by_cases e : j = k
          · subst e; rw [HF.out] at hm; cases hm; exact hq
          · exact HE.out j m (by omega) hm
        case measure => simp [intOf]; omega
    · obtain rfl : k = n := by omega
      have HI := Lib.hid (idxI_none (idx_absent (by rw [hlen.out]; exact HE.out)))
      go_wp2
      go_ret
      exact ⟨by rw [HI.out]; rfl, haf⟩

theorem refClasses_any (A : Option Addr) (n c : Nat) (ls : List Lt) (r : Int) (w : World) (ha : Ll w A n c ls) :
    Calls Tryd.prog 55 #[.slice A n c, .int .i32 r] w (ValPost w (.int .u32 (clsOf ls r))) := by
  have hn := ha.max
  have hnc := ha.le
  go_enter Tryd.func55, Tryd.ntmps55
  go_wp2_with fail
  have h1 := refIndex_any A n c ls r w ha
  cases hh : AlphPlain.has ls r
  · have e : idxI ls r = -1 := by simp [idxI, hh]
    rw [e] at h1
    refine h1.mono ?_
    rintro e w1 ⟨rfl, A1⟩
    clear h1
    go_wp2
    go_ret
    exact ⟨by simp [clsOf, hh], A1⟩
  · have e : idxI ls r = (pos ls r : Nat) := by simp [idxI, hh]
    rw [e] at h1
    refine h1.mono ?_
    rintro e w1 ⟨rfl, A1⟩
    clear h1
    obtain ⟨l, hl, _⟩ := pos_get hh
    have hlt : pos ls r < n := by have := (List.getElem?_eq_some_iff.1 hl).1; have := ha.len; omega
    obtain ⟨b, off, l', rfl, hf, g1, g2⟩ := ha.at_ hlt
    obtain rfl : l = l' := by rw [hl] at hf; exact Option.some.inj hf
    have c2 := A1.cell g2
    have HC := Lib.hid (show clsOf ls r = l.2 by simp [clsOf, hh, List.getD, hl])
    generalize pos ls r = p at *
    go_wp2
    go_ret
    exact ⟨by rw [HC.out]; rfl, A1⟩

theorem validB_dup {ls : List Lt} {k : Nat} {l : Lt} (hk : ls[k]? = some l) (h : idx ls l.1 ≠ some k) : validB ls = false := by
  unfold validB
  have : ¬ cnt ls = ls.length := fun e => h ((cnt_dist _ _ rfl).1 e k l hk)
  simp [this]
theorem validB_all {ls : List Lt} {n : Nat} (hl : ls.length = n) (h1 : ¬ n = 0) (h2 : ¬ 64 < n) (h : ∀ j l, j < n → ls[j]? = some l → goodB l.1 = true ∧ idx ls l.1 = some j) : validB ls = true := by
  have hall : ls.all (fun l => goodB l.1) = true := by
    rw [List.all_eq_true]
    intro l hm
    obtain ⟨j, hj⟩ := List.getElem?_of_mem hm
    exact (h j l (by have := (List.getElem?_eq_some_iff.1 hj).1; omega) hj).1
  have hd : Dist ls := fun i l hi => (h i l (by have := (List.getElem?_eq_some_iff.1 hi).1; omega) hi).2
  have hc := (cnt_dist _ _ rfl).2 hd
  unfold validB
  rw [hall, hl, decide_eq_true (show 1 ≤ n by omega), decide_eq_true (show n ≤ 64 by omega), hc, hl]
  simp

set_option maxRecDepth 100000 in
set_option maxHeartbeats 1600000 in
theorem refValid_any (A : Option Addr) (n c : Nat) (ls : List Lt) (w : World) (ha : Ll w A n c ls) :
    Calls Tryd.prog 63 #[.slice A n c] w (BoolPost w (validB ls)) := by
  have hn := ha.max
  have hnc := ha.le
  have hlen := Lib.hid ha.len
  by_cases h1 : n = 0
  · subst h1
    go_enter Tryd.func63, Tryd.ntmps63
    go_wp2
    go_ret
    exact ⟨by simp [validB, hlen.out], Aft.refl _⟩
  by_cases h2 : 64 < n
  · have h1' : ¬ (n : Int) < 1 := by omega
    have h2' : (64 : Int) < n := by omega
    go_enter Tryd.func63, Tryd.ntmps63
    go_wp2
    go_ret
    exact ⟨by simp [validB, hlen.out]; intro _ h; omega, Aft.refl _⟩
  have h1' : ¬ (n : Int) < 1 := by omega
  have h2' : ¬ (64 : Int) < n := by omega
  go_enter Tryd.func63, Tryd.ntmps63
  go_wp2
  go_loopw [3] (fun i wr => ∃ k, k ≤ n ∧ i = .int .i64 (k : Nat) ∧ (∀ j l, j < k → ls[j]? = some l → goodB l.1 = true ∧ idx ls l.1 = some j) ∧ Aft w wr) (fun i _ => n - (intOf i).toNat)
  case atStart => exact ⟨0, Nat.zero_le _, rfl, fun j m h => by omega, Aft.refl _⟩
  case round =>
    obtain ⟨k, hk, rfl, hall, haf⟩ := hrel
    have HA := Lib.hid hall
    clear hall
    by_cases hlt : k < n
    · obtain ⟨b, off, l, rfl, hf, g1, g2⟩ := ha.at_ hlt
      have c1 := haf.cell g1
      have HF := Lib.hid hf
      clear hf g1 g2
      cases hg : goodB l.1
      · go_wp2_with fail
        have hv := refGood_any l.1
        rw [hg] at hv
        refine (hv _).mono ?_
        rintro e w1 ⟨rfl, rfl⟩
        clear hv
        go_wp2
        go_ret
        exact ⟨by rw [validB_bad HF.out hg]; rfl, haf⟩
      · have HG := Lib.hid hg
        go_wp2_with fail
        have hv := refGood_any l.1
        rw [hg] at hv
        refine (hv _).mono ?_
        rintro e w1 ⟨rfl, rfl⟩
        clear hv hg
        go_wp2_with fail
        have hx := refIndex_any (some ⟨b, off, none⟩) n c ls l.1 wr (ha.aft haf)
        obtain ⟨j, hj, hjk⟩ := idx_le HF.out
        rw [idxI_some hj] at hx
        refine hx.mono ?_
        rintro e w1 ⟨rfl, A1⟩
        clear hx
        have HJ := Lib.hid hj
        clear hj
        by_cases hjk2 : j = k
        · subst hjk2
          go_wp2
          go_roundw
          case rel =>
            refine ⟨j + 1, by omega, by go_num, fun i m hi hm => ?_, haf.trans A1⟩
            by_cases e : i = j
            · subst e; rw [HF.out] at hm; cases hm; exact ⟨HG.out, HJ.out⟩
            · exact HA.out i m (by omega) hm
          case measure => simp [intOf]; omega
        · have hne : ¬ ((j : Int) = (k : Int)) := by omega
          go_wp2
          go_ret
          exact ⟨by rw [validB_dup HF.out (by rw [HJ.out]; intro e; cases e; exact hjk2 rfl)]; rfl, haf.trans A1⟩
    · obtain rfl : k = n := by omega
      have HV := Lib.hid (validB_all hlen.out h1 h2 HA.out)
      go_wp2
      go_ret
      exact ⟨by rw [HV.out]; rfl, haf⟩

end Go.Proofs.YtfjfgjncmliadaaDoor
