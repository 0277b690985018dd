/-
  The examples of the chapter on alphabets hold: awake returns true. Condition: the tables of package unicode/utf8 lie as their texts say.
-/
import Derived.Test.YtgnhkacndmdfgaaDoorAlphWord
import Derived.Test.YtgnhkacndmdfgaaDoorAlphWords
namespace Go.Proofs.YtgnhkacndmdfgaaDoor
open Go.RowKit
open AlphPlain

def exL : List Lt := [(98, 2), (97, 9), (101, 5)]
abbrev sBa : ByteArray := ⟨#[98, 97]⟩
abbrev sBe : ByteArray := ⟨#[98, 101]⟩
abbrev sBz : ByteArray := ⟨#[98, 122]⟩
abbrev sAbba : ByteArray := ⟨#[97, 98, 98, 97]⟩
abbrev sAbc : ByteArray := ⟨#[97, 98, 99]⟩

theorem ex_valid : validB exL = true := by kernel_rfl
theorem ex_index : idxI exL 101 = 2 := by kernel_rfl
theorem ex_partner : partner exL 97 12 = some 101 := by kernel_rfl
theorem ex_cmp1 : cmpL exL sBa sBe = -1 := by kernel_rfl
theorem ex_cmp2 : cmpL exL sBa sBz = -1 := by kernel_rfl
theorem ex_word1 : isWordB exL sAbba true = true := by kernel_rfl
theorem ex_word2 : isWordB exL sAbc true = false := by kernel_rfl
theorem ex_words : (words exL 2).length = 9 := by kernel_rfl

theorem ascii_of {l : List UInt8} (h : l.all (fun b => decide (b.toNat < 128)) = true) : Ascii ⟨l.toArray⟩ := by
  intro i hi
  rw [List.all_eq_true] at h
  have hm : (ByteArray.mk l.toArray)[i] ∈ l := by
    show l.toArray[i] ∈ l
    simp
  simpa using h _ hm

theorem exL_ll (w : World) : Ll (w.alloc (.cells #[.int .i32 98, .int .u32 2, .int .i32 97, .int .u32 9, .int .i32 101, .int .u32 5] 31)) (some ⟨w.heap.size, 0, none⟩) 3 3 exL :=
  ⟨rfl, Nat.le_refl _, by omega, by omega, fun e => (by cases e), fun i l hi => by
    refine ⟨w.heap.size, 0, rfl, ?_⟩
    match i, hi with
    | 0, hi => simp [exL] at hi; subst hi; constructor <;> simp
    | 1, hi => simp [exL] at hi; subst hi; constructor <;> simp
    | 2, hi => simp [exL] at hi; subst hi; constructor <;> simp
    | i + 3, hi => simp [exL] at hi, fun l hl => by
    simp [exL] at hl
    rcases hl with rfl | rfl | rfl <;> exact ⟨by decide, by decide⟩⟩

set_option maxRecDepth 100000 in
set_option maxHeartbeats 3200000 in
theorem awake_any (w : World) (hT : Tabs w) : Calls Tryd.prog 16 #[] w (BoolPost w true) := by
  have ha := exL_ll w
  have A0 : Aft w _ := (Aft.refl w).alloc (.cells #[.int .i32 98, .int .u32 2, .int .i32 97, .int .u32 9, .int .i32 101, .int .u32 5] 31)
  go_enter Tryd.func16, Tryd.ntmps16
  go_wp2_with fail
  generalize w.alloc (.cells #[.int .i32 98, .int .u32 2, .int .i32 97, .int .u32 9, .int .i32 101, .int .u32 5] 31) = w0 at *
  generalize w.heap.size = H at *
  have h1 := partner_any _ 3 3 exL 97 12 w0 ha (by decide)
  rw [ex_partner] at h1
  refine h1.mono ?_
  rintro e w1 ⟨rfl, N1⟩
  clear h1
  have A1 := A0.trans N1
  have l1 := ha.aft N1
  clear ha
  simp only [optV]
  go_wp2_with fail
  have h1 := valid_any _ 3 3 exL w1 l1
  rw [ex_valid] at h1
  refine h1.mono ?_
  rintro e w2 ⟨rfl, N2⟩
  clear h1
  have A2 := A1.trans N2
  have l2 := l1.aft N2
  clear l1
  go_wp2_with fail
  have h1 := index_any _ 3 3 exL 101 w2 l2 (by decide)
  rw [ex_index] at h1
  refine h1.mono ?_
  rintro e w3 ⟨rfl, N3⟩
  clear h1
  have A3 := A2.trans N3
  have l3 := l2.aft N3
  clear l2
  go_wp2_with fail
  have h1 := compare_any _ 3 3 exL sBa sBe w3 l3 (tabs_aft hT A3)
  rw [ex_cmp1] at h1
  refine h1.mono ?_
  rintro e w4 ⟨rfl, N4⟩
  clear h1
  have A4 := A3.trans N4
  have l4 := l3.aft N4
  clear l3
  go_wp2_with fail
  have h1 := compare_any _ 3 3 exL sBa sBz w4 l4 (tabs_aft hT A4)
  rw [ex_cmp2] at h1
  refine h1.mono ?_
  rintro e w5 ⟨rfl, N5⟩
  clear h1
  have A5 := A4.trans N5
  have l5 := l4.aft N5
  clear l4
  go_wp2_with fail
  have h1 := isWord_of _ 3 3 exL sAbba true w5 l5 (by decide) (validShort_any sAbba w5 (ascii_of (l := [97, 98, 98, 97]) (by decide)) (by decide))
  rw [ex_word1] at h1
  refine h1.mono ?_
  rintro e w6 ⟨rfl, N6⟩
  clear h1
  have A6 := A5.trans N6
  have l6 := l5.aft N6
  clear l5
  go_wp2_with fail
  have h1 := isWord_of _ 3 3 exL sAbc true w6 l6 (by decide) (validShort_any sAbc w6 (ascii_of (l := [97, 98, 99]) (by decide)) (by decide))
  rw [ex_word2] at h1
  refine h1.mono ?_
  rintro e w7 ⟨rfl, N7⟩
  clear h1
  have A7 := A6.trans N7
  have l7 := l6.aft N7
  clear l6
  go_wp2_with fail
  have h1 := words_any _ 3 3 exL 2 w7 l7
  refine h1.mono ?_
  rintro e w8 ⟨⟨U, un, uc, rfl, su⟩, N8⟩
  clear h1
  have A8 := A7.trans N8
  obtain rfl : 9 = un := by rw [← ex_words]; exact su.len
  clear su l7
  go_wp2
  go_ret
  exact ⟨rfl, A8⟩
end Go.Proofs.YtgnhkacndmdfgaaDoor
