/-
  The reference's Valid, Vowel, Nuclei, fits, onset and Onset, and few. Conditions: the slices hold the letters, masks and runes; a string has at most 1000000 bytes.
-/
import Derived.Test.YtfjfgjncmliadaaDoorSylAwake
namespace Go.Proofs.YtfjfgjncmliadaaDoor
open Go.RowKit Go.Maps
open AlphPlain

theorem validP_bad {os : List Mk} {k : Nat} {x : Mk} {L R : Int} (h : os[k]? = some x) (hl : 4 < x.ms.length) : validP (masks os) L R = false := by
  have : (masks os).any (fun ms => decide (4 < ms.length)) = true := by
    rw [List.any_eq_true]
    exact ⟨x.ms, List.mem_map.2 ⟨x, List.mem_of_getElem? h, rfl⟩, by simpa using hl⟩
  unfold validP
  rw [this]
  simp
theorem validP_end {os : List Mk} {n : Nat} {L R : Int} (hn : os.length = n) (h : ∀ j x, j < n → os[j]? = some x → x.ms.length ≤ 4) : validP (masks os) L R = (decide (n ≤ 32) && marB L && marB R) := by
  have : (masks os).any (fun ms => decide (4 < ms.length)) = false := by
    rw [List.any_eq_false]
    intro ms hm
    obtain ⟨x, hx, rfl⟩ := List.mem_map.1 hm
    obtain ⟨j, hj⟩ := List.getElem?_of_mem hx
    have := h j x (by have := (List.getElem?_eq_some_iff.1 hj).1; omega) hj
    simp
    omega
  unfold validP
  rw [this, show (masks os).length = n by simp [masks, hn]]
  simp

set_option maxRecDepth 100000 in
set_option maxHeartbeats 1600000 in
theorem refValidP_any (A : Option Addr) (n c : Nat) (os : List Mk) (L R : Int) (w : World) (ha : Ons w A n c os) :
    Calls Tryd.prog 17 #[pV A n c L R] w (BoolPost w (validP (masks os) L R)) := by
  have AL : Aft w (w.alloc (.cells #[.slice A n c, .int .i64 L, .int .i64 R] 24)) := (Aft.refl w).alloc _
  obtain ⟨t0, t1, t2⟩ := three_cells w (.slice A n c) (.int .i64 L) (.int .i64 R) 24
  have hle := ha.row.le
  have hcm := ha.row.cmax
  have hlen := Lib.hid ha.row.len
  generalize hw0 : w.alloc (.cells #[.slice A n c, .int .i64 L, .int .i64 R] 24) = w0 at *
  have HW0 := Lib.hid hw0
  clear hw0
  go_enter Tryd.func17, Tryd.ntmps17
  go_wp2
  rw [HW0.out]
  go_loopw [3] (fun i wr => ∃ k, k ≤ n ∧ i = .int .i64 (k : Nat) ∧ (∀ j x, j < k → os[j]? = some x → x.ms.length ≤ 4) ∧ w0 = wr) (fun i _ => n - (intOf i).toNat)
  case atStart => exact ⟨0, Nat.zero_le _, rfl, fun j x h => by omega, rfl⟩
  case round =>
    obtain ⟨k, hk, rfl, he, rfl⟩ := hrel
    have HE := Lib.hid he
    clear he
    by_cases hlt : k < n
    · obtain ⟨b, off, x, rfl, hx, g1⟩ := ha.row.at_ hlt
      have g2 := AL.cell g1
      dsimp only [Mk.enc] at g2
      have hxl := (ha.each x (List.mem_of_getElem? hx)).len
      have hxb : x.n ≤ 9223372036854775807 := by have := (ha.each x (List.mem_of_getElem? hx)).le; have := (ha.each x (List.mem_of_getElem? hx)).cmax; omega
      have HX := Lib.hid hx
      have HL := Lib.hid hxl
      have hki : (k : Int) < (n : Int) := by omega
      clear hx g1 hxl
      by_cases h4 : 4 < x.n
      · have h4' : (4 : Int) < (x.n : Int) := by omega
        have HB := Lib.hid (validP_bad (L := L) (R := R) HX.out (by rw [HL.out]; exact h4))
        go_wp2
        go_ret
        exact ⟨by rw [HB.out]; rfl, AL⟩
      · have h4' : ¬ (4 : Int) < (x.n : Int) := by omega
        go_wp2
        go_roundw
        case rel =>
          refine ⟨k + 1, by omega, by go_num, fun j y hj hy => ?_, trivial⟩
          by_cases e : j = k
          · subst e
            rw [HX.out] at hy
            cases hy
            rw [HL.out]
            omega
          · exact HE.out j y (by omega) hy
        case measure => simp [intOf]; omega
    · obtain rfl : k = n := by omega
      have HV := Lib.hid (validP_end (L := L) (R := R) hlen.out HE.out)
      clear HE
      by_cases h32 : k ≤ 32
      · have h32' : (k : Int) ≤ 32 := by omega
        by_cases l1 : 1 ≤ L
        · by_cases l8 : L ≤ 8
          · by_cases r1 : 1 ≤ R
            · by_cases r8 : R ≤ 8
              · have HX := Lib.hid (show validP (masks os) L R = true by rw [HV.out]; unfold marB; rw [decide_eq_true h32, decide_eq_true l1, decide_eq_true l8, decide_eq_true r1, decide_eq_true r8]; rfl)
                go_wp2
                go_ret
                exact ⟨by rw [HX.out]; first | rfl | (simp; done) | (simp; omega), AL⟩
              · have HX := Lib.hid (show validP (masks os) L R = false by rw [HV.out]; unfold marB; rw [decide_eq_true h32, decide_eq_true l1, decide_eq_true l8, decide_eq_true r1, decide_eq_false r8]; rfl)
                go_wp2
                go_ret
                exact ⟨by rw [HX.out]; first | rfl | (simp; done) | (simp; omega), AL⟩
            · have HX := Lib.hid (show validP (masks os) L R = false by rw [HV.out]; unfold marB; rw [decide_eq_true h32, decide_eq_true l1, decide_eq_true l8, decide_eq_false r1]; rfl)
              go_wp2
              go_ret
              exact ⟨by rw [HX.out]; first | rfl | (simp; done) | (simp; omega), AL⟩
          · have HX := Lib.hid (show validP (masks os) L R = false by rw [HV.out]; unfold marB; rw [decide_eq_true h32, decide_eq_true l1, decide_eq_false l8]; rfl)
            go_wp2
            go_ret
            exact ⟨by rw [HX.out]; first | rfl | (simp; done) | (simp; omega), AL⟩
        · have HX := Lib.hid (show validP (masks os) L R = false by rw [HV.out]; unfold marB; rw [decide_eq_true h32, decide_eq_false l1]; rfl)
          go_wp2
          go_ret
          exact ⟨by rw [HX.out]; first | rfl | (simp; done) | (simp; omega), AL⟩
      · have h32' : ¬ (k : Int) ≤ 32 := by omega
        have HX := Lib.hid (show validP (masks os) L R = false by rw [HV.out]; unfold marB; rw [decide_eq_false h32]; rfl)
        go_wp2
        go_ret
        exact ⟨by rw [HX.out]; first | rfl | (simp; done) | (simp; omega), AL⟩

/-- Are letters, onsets and a word few? -/
def fewP (n : Nat) (os : List Mk) (s : ByteArray) : Bool := os.all (fun x => decide (x.n ≤ 8)) && decide (n ≤ 70) && decide (os.length ≤ 40) && decide (s.size ≤ 200)
theorem fewP_bad {n : Nat} {os : List Mk} {s : ByteArray} {k : Nat} {x : Mk} (h : os[k]? = some x) (hl : 8 < x.n) : fewP n os s = false := by
  have : os.all (fun x => decide (x.n ≤ 8)) = false := by
    rw [List.all_eq_false]
    exact ⟨x, List.mem_of_getElem? h, by simpa using hl⟩
  simp [fewP, this]
theorem fewP_end {n m : Nat} {os : List Mk} {s : ByteArray} (hm : os.length = m) (h : ∀ j x, j < m → os[j]? = some x → x.n ≤ 8) : fewP n os s = (decide (n ≤ 70) && decide (m ≤ 40) && decide (s.size ≤ 200)) := by
  have : os.all (fun x => decide (x.n ≤ 8)) = true := by
    rw [List.all_eq_true]
    intro x hx
    obtain ⟨j, hj⟩ := List.getElem?_of_mem hx
    have := h j x (by have := (List.getElem?_eq_some_iff.1 hj).1; omega) hj
    simpa using this
  simp [fewP, this, hm]
theorem fewP_facts {n : Nat} {os : List Mk} {s : ByteArray} (h : fewP n os s = true) : n ≤ 70 ∧ os.length ≤ 40 ∧ s.size ≤ 200 ∧ ∀ x ∈ os, x.n ≤ 8 := by
  simp only [fewP, Bool.and_eq_true, decide_eq_true_eq, List.all_eq_true] at h
  exact ⟨h.1.1.2, h.1.2, h.2, h.1.1.1⟩

set_option maxRecDepth 100000 in
set_option maxHeartbeats 1600000 in
theorem few_any (A : Option Addr) (n c : Nat) (B : Option Addr) (m d : Nat) (os : List Mk) (L R : Int) (s : ByteArray) (w : World) (hn : n ≤ 9223372036854775807) (ha : Ons w B m d os) (hs : s.size ≤ maxLen) :
    Calls Tryd.prog 15 #[.slice A n c, pV B m d L R, .string s] w (BoolPost w (fewP n os s)) := by
  have AL : Aft w (w.alloc (.cells #[.slice B m d, .int .i64 L, .int .i64 R] 24)) := (Aft.refl w).alloc _
  obtain ⟨t0, t1, t2⟩ := three_cells w (.slice B m d) (.int .i64 L) (.int .i64 R) 24
  have hle := ha.row.le
  have hcm := ha.row.cmax
  have hlen := Lib.hid ha.row.len
  unfold maxLen at hs
  generalize hw0 : w.alloc (.cells #[.slice B m d, .int .i64 L, .int .i64 R] 24) = w0 at *
  have HW0 := Lib.hid hw0
  clear hw0
  go_enter Tryd.func15, Tryd.ntmps15
  go_wp2
  rw [HW0.out]
  go_loopw [7] (fun i wr => ∃ k, k ≤ m ∧ i = .int .i64 (k : Nat) ∧ (∀ j x, j < k → os[j]? = some x → x.n ≤ 8) ∧ w0 = wr) (fun i _ => m - (intOf i).toNat)
  case atStart => exact ⟨0, Nat.zero_le _, rfl, fun j x h => by omega, rfl⟩
  case round =>
    obtain ⟨k, hk, rfl, he, rfl⟩ := hrel
    have HE := Lib.hid he
    clear he
    by_cases hlt : k < m
    · obtain ⟨b, off, x, rfl, hx, g1⟩ := ha.row.at_ hlt
      have g2 := AL.cell g1
      dsimp only [Mk.enc] at g2
      have hxb : x.n ≤ 9223372036854775807 := by have := (ha.each x (List.mem_of_getElem? hx)).le; have := (ha.each x (List.mem_of_getElem? hx)).cmax; omega
      have HX := Lib.hid hx
      have hki : (k : Int) < (m : Int) := by omega
      clear hx g1
      by_cases h8 : 8 < x.n
      · have h8' : (8 : Int) < (x.n : Int) := by omega
        have HB := Lib.hid (fewP_bad (n := n) (s := s) HX.out h8)
        go_wp2
        go_ret
        exact ⟨by rw [HB.out]; rfl, AL⟩
      · have h8' : ¬ (8 : Int) < (x.n : Int) := by omega
        go_wp2
        go_roundw
        case rel =>
          refine ⟨k + 1, by omega, by go_num, fun j y hj hy => ?_, trivial⟩
          by_cases e : j = k
          · subst e
            rw [HX.out] at hy
            cases hy
            omega
          · exact HE.out j y (by omega) hy
        case measure => simp [intOf]; omega
    · obtain rfl : k = m := by omega
      have HV := Lib.hid (fewP_end (n := n) (s := s) hlen.out HE.out)
      clear HE
      by_cases h70 : n ≤ 70
      · have h70' : (n : Int) ≤ 70 := by omega
        by_cases h40 : k ≤ 40
        · have h40' : (k : Int) ≤ 40 := by omega
          by_cases h200 : s.size ≤ 200
          · have h200' : (s.size : Int) ≤ 200 := by omega
            have HX := Lib.hid (show fewP n os s = true by rw [HV.out, decide_eq_true h70, decide_eq_true h40, decide_eq_true h200]; rfl)
            go_wp2
            go_ret
            exact ⟨by rw [HX.out]; first | rfl | (simp; done) | (simp; omega), AL⟩
          · have h200' : ¬ (s.size : Int) ≤ 200 := by omega
            have HX := Lib.hid (show fewP n os s = false by rw [HV.out, decide_eq_true h70, decide_eq_true h40, decide_eq_false h200]; rfl)
            go_wp2
            go_ret
            exact ⟨by rw [HX.out]; first | rfl | (simp; done) | (simp; omega), AL⟩
        · have h40' : ¬ (k : Int) ≤ 40 := by omega
          have HX := Lib.hid (show fewP n os s = false by rw [HV.out, decide_eq_true h70, decide_eq_false h40]; rfl)
          go_wp2
          go_ret
          exact ⟨by rw [HX.out]; first | rfl | (simp; done) | (simp; omega), AL⟩
      · have h70' : ¬ (n : Int) ≤ 70 := by omega
        have HX := Lib.hid (show fewP n os s = false by rw [HV.out, decide_eq_false h70]; rfl)
        go_wp2
        go_ret
        exact ⟨by rw [HX.out]; first | rfl | (simp; done) | (simp; omega), AL⟩
end Go.Proofs.YtfjfgjncmliadaaDoor
