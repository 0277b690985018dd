/-
  awake returns true. Condition: the tables lie as their texts say.
-/
import Derived.Test.YtfjfgjncmliadaaDoorSylHyp
namespace Go.Proofs.YtfjfgjncmliadaaDoor
open Go.RowKit Go.Maps
open AlphPlain

def exL : List Lt := [(97, 1), (105, 1), (116, 258), (114, 130), (110, 66)]
def exM : List (List Int) := [[2], [256, 128]]
def exO (h : Nat) : List Mk := [⟨some ⟨h + 1, 0, none⟩, 1, 1, [2]⟩, ⟨some ⟨h + 1 + 1, 0, none⟩, 2, 2, [256, 128]⟩]
abbrev sTantrina : ByteArray := ⟨#[116, 97, 110, 116, 114, 105, 110, 97]⟩
abbrev sHyp : ByteArray := ⟨#[116, 97, 110, 45, 116, 114, 105, 45, 110, 97]⟩
abbrev exS : List ByteArray := [⟨#[116, 97, 110]⟩, ⟨#[116, 114, 105]⟩, ⟨#[110, 97]⟩]

theorem ex_ok : okD exL exM 2 2 sTantrina = true := by kernel_rfl
theorem ex_split : splitB (runesOf sTantrina) (sylP exL exM (runesOf sTantrina)) = exS := by kernel_rfl
theorem ex_pts : ptsB (runesOf sTantrina).length 2 2 (sylP exL exM (runesOf sTantrina)) = [3, 6] := by kernel_rfl
theorem ex_hyp : hyphB sTantrina [3, 6] = sHyp := by kernel_rfl
theorem ex_on1 : onB exL exM (runesOf ⟨#[116, 114]⟩) = true := by kernel_rfl
theorem ex_on2 : onB exL exM (runesOf ⟨#[114, 116]⟩) = false := by kernel_rfl

theorem exL_ll (w : World) : Ll (w.alloc (.cells #[.int .i32 97, .int .u32 1, .int .i32 105, .int .u32 1, .int .i32 116, .int .u32 258, .int .i32 114, .int .u32 130, .int .i32 110, .int .u32 66] 51)) (some ⟨w.heap.size, 0, none⟩) 5 5 exL :=
  ⟨rfl, Nat.le_refl _, by omega, by omega, fun e => (by cases e), fun i l hi => by
    refine ⟨w.heap.size, 0, rfl, ?_⟩
    match i, hi with
    | 0, hi => simp [exL] at hi; subst hi; constructor <;> simp
    | 1, hi => simp [exL] at hi; subst hi; constructor <;> simp
    | 2, hi => simp [exL] at hi; subst hi; constructor <;> simp
    | 3, hi => simp [exL] at hi; subst hi; constructor <;> simp
    | 4, hi => simp [exL] at hi; subst hi; constructor <;> simp
    | i + 5, hi => simp [exL] at hi, fun l hl => by
    simp [exL] at hl
    rcases hl with rfl | rfl | rfl | rfl | rfl <;> exact ⟨by decide, by decide⟩⟩

def exW (w : World) : World := (((((w.alloc (.cells #[.int .i32 97, .int .u32 1, .int .i32 105, .int .u32 1, .int .i32 116, .int .u32 258, .int .i32 114, .int .u32 130, .int .i32 110, .int .u32 66] 51)).alloc (.cells #[.int .u32 2] 49)).alloc (.cells #[.int .u32 256, .int .u32 128] 49)).alloc (.cells #[.slice (some ⟨w.heap.size + 1, 0, none⟩) 1 1, .slice (some ⟨w.heap.size + 1 + 1, 0, none⟩) 2 2] 33)).alloc (.cells #[.slice (some ⟨w.heap.size + 1 + 1 + 1, 0, none⟩) 2 2, .int .i64 2, .int .i64 2] 24))
theorem exW_facts (w : World) : Ll (exW w) (some ⟨w.heap.size, 0, none⟩) 5 5 exL ∧ Ons (exW w) (some ⟨w.heap.size + 1 + 1 + 1, 0, none⟩) 2 2 (exO w.heap.size) ∧ Aft w (exW w) ∧
    (exW w).cell? ⟨w.heap.size + 1 + 1 + 1 + 1, 0, none⟩ = some (.slice (some ⟨w.heap.size + 1 + 1 + 1, 0, none⟩) 2 2) ∧ (exW w).cell? ⟨w.heap.size + 1 + 1 + 1 + 1, 1, none⟩ = some (.int .i64 2) ∧ (exW w).cell? ⟨w.heap.size + 1 + 1 + 1 + 1, 2, none⟩ = some (.int .i64 2) := by
  unfold exW
  have h1 := exL_ll w
  have s1 := World.size_alloc w (.cells #[.int .i32 97, .int .u32 1, .int .i32 105, .int .u32 1, .int .i32 116, .int .u32 258, .int .i32 114, .int .u32 130, .int .i32 110, .int .u32 66] 51)
  have A1 : Aft w _ := (Aft.refl w).alloc (.cells #[.int .i32 97, .int .u32 1, .int .i32 105, .int .u32 1, .int .i32 116, .int .u32 258, .int .i32 114, .int .u32 130, .int .i32 110, .int .u32 66] 51)
  generalize w.alloc (.cells #[.int .i32 97, .int .u32 1, .int .i32 105, .int .u32 1, .int .i32 116, .int .u32 258, .int .i32 114, .int .u32 130, .int .i32 110, .int .u32 66] 51) = w1 at *
  generalize w.heap.size = H at *
  have h2 : Rw vU (w1.alloc (.cells #[.int .u32 2] 49)) (some ⟨H + 1, 0, none⟩) 1 1 [2] := by rw [← s1]; exact lit_rw w1 49 [2] (by simp)
  have s2 : (w1.alloc (.cells #[.int .u32 2] 49)).heap.size = H + 1 + 1 := by rw [World.size_alloc, s1]
  have A2 : Aft w1 _ := (Aft.refl w1).alloc (.cells #[.int .u32 2] 49)
  generalize w1.alloc (.cells #[.int .u32 2] 49) = w2 at *
  have h3 : Rw vU (w2.alloc (.cells #[.int .u32 256, .int .u32 128] 49)) (some ⟨H + 1 + 1, 0, none⟩) 2 2 [256, 128] := by rw [← s2]; exact lit_rw w2 49 [256, 128] (by simp)
  have s3 : (w2.alloc (.cells #[.int .u32 256, .int .u32 128] 49)).heap.size = H + 1 + 1 + 1 := by rw [World.size_alloc, s2]
  have A3 : Aft w2 _ := (Aft.refl w2).alloc (.cells #[.int .u32 256, .int .u32 128] 49)
  generalize w2.alloc (.cells #[.int .u32 256, .int .u32 128] 49) = w3 at *
  have h4 : Rw Mk.enc (w3.alloc (.cells #[.slice (some ⟨H + 1, 0, none⟩) 1 1, .slice (some ⟨H + 1 + 1, 0, none⟩) 2 2] 33)) (some ⟨H + 1 + 1 + 1, 0, none⟩) 2 2 (exO H) := by rw [← s3]; exact lit_rw w3 33 (exO H) (by simp [exO])
  have s4 : (w3.alloc (.cells #[.slice (some ⟨H + 1, 0, none⟩) 1 1, .slice (some ⟨H + 1 + 1, 0, none⟩) 2 2] 33)).heap.size = H + 1 + 1 + 1 + 1 := by rw [World.size_alloc, s3]
  have A4 : Aft w3 _ := (Aft.refl w3).alloc (.cells #[.slice (some ⟨H + 1, 0, none⟩) 1 1, .slice (some ⟨H + 1 + 1, 0, none⟩) 2 2] 33)
  generalize w3.alloc (.cells #[.slice (some ⟨H + 1, 0, none⟩) 1 1, .slice (some ⟨H + 1 + 1, 0, none⟩) 2 2] 33) = w4 at *
  have h5 := three_cells w4 (.slice (some ⟨H + 1 + 1 + 1, 0, none⟩) 2 2) (.int .i64 2) (.int .i64 2) 24
  have A5 : Aft w4 _ := (Aft.refl w4).alloc (.cells #[.slice (some ⟨H + 1 + 1 + 1, 0, none⟩) 2 2, .int .i64 2, .int .i64 2] 24)
  rw [s4] at h5
  generalize w4.alloc (.cells #[.slice (some ⟨H + 1 + 1 + 1, 0, none⟩) 2 2, .int .i64 2, .int .i64 2] 24) = w5 at *
  refine ⟨(((h1.aft A2).aft A3).aft A4).aft A5, ⟨h4.aft A5, fun x hx => ?_⟩, (((A1.trans A2).trans A3).trans A4).trans A5, h5⟩
  simp only [exO, List.mem_cons, List.not_mem_nil, or_false] at hx
  rcases hx with rfl | rfl
  · exact (((h2.aft A3).aft A4).aft A5)
  · exact ((h3.aft A4).aft A5)

set_option maxRecDepth 100000 in
set_option maxHeartbeats 1600000 in
theorem awake_any (w : World) (hT : Tabs w) : Calls Tryd.prog 14 #[] w (BoolPost w true) := by
  obtain ⟨ha, hb, A0, c0, c1, c2⟩ := exW_facts w
  unfold exW at ha hb A0 c0 c1 c2
  have hM : masks (exO w.heap.size) = exM := rfl
  have z1 : sTantrina.size ≤ 1000000 := by decide
  have z2 : (ByteArray.mk #[116, 114]).size ≤ 1000000 := by decide
  have z3 : (ByteArray.mk #[114, 116]).size ≤ 1000000 := by decide
  go_enter Tryd.func14, Tryd.ntmps14
  go_wp2_with fail
  generalize (((((w.alloc (.cells #[.int .i32 97, .int .u32 1, .int .i32 105, .int .u32 1, .int .i32 116, .int .u32 258, .int .i32 114, .int .u32 130, .int .i32 110, .int .u32 66] 51)).alloc (.cells #[.int .u32 2] 49)).alloc (.cells #[.int .u32 256, .int .u32 128] 49)).alloc (.cells #[.slice (some ⟨w.heap.size + 1, 0, none⟩) 1 1, .slice (some ⟨w.heap.size + 1 + 1, 0, none⟩) 2 2] 33)).alloc (.cells #[.slice (some ⟨w.heap.size + 1 + 1 + 1, 0, none⟩) 2 2, .int .i64 2, .int .i64 2] 24)) = W0 at *
  have HA := Lib.hid ha
  have HB := Lib.hid hb
  have HMM := Lib.hid hM
  clear ha hb hM
  generalize w.heap.size = H at *
  have h1 := split_any _ 5 5 exL _ 2 2 (exO H) 2 2 sTantrina W0 (tabs_aft hT A0) HA.out HB.out z1
  rw [HMM.out, ex_ok, if_pos rfl, ex_split] at h1
  refine h1.mono ?_
  rintro e w1 ⟨⟨X1, n1, k1, rfl, hs1⟩, A1⟩
  clear h1
  have HS1 := Lib.hid hs1
  have d0 := A1.cell c0
  have d1 := A1.cell c1
  have d2 := A1.cell c2
  clear hs1 c0 c1 c2
  have B1 := A0.trans A1
  dsimp only [errOf]
  go_wp2_with fail
  have h1 := points_any _ 5 5 exL _ 2 2 (exO H) 2 2 sTantrina w1 (tabs_aft hT B1) (HA.out.aft A1) (HB.out.aft A1) z1
  rw [HMM.out, ex_ok, if_pos rfl, ex_pts] at h1
  refine h1.mono ?_
  rintro e w2 ⟨⟨X2, n2, k2, rfl, hs2⟩, A2⟩
  clear h1
  have HS2 := Lib.hid hs2
  have e0 := A2.cell d0
  have e1 := A2.cell d1
  have e2 := A2.cell d2
  clear hs2 d0 d1 d2
  have B2 := B1.trans A2
  dsimp only [errOf]
  go_wp2_with fail
  have A3 : Aft w2 (w2.alloc (.cells #[.string ⟨#[116, 97, 110]⟩, .string ⟨#[116, 114, 105]⟩, .string ⟨#[110, 97]⟩] 9)) := (Aft.refl w2).alloc _
  refine (sameS_any X1 n1 k1 _ 3 3 exS _ ((HS1.out.aft A2).aft A3) (lit_rw w2 9 exS (by simp))).mono ?_
  rintro e w3 ⟨rfl, A4⟩
  have B4 := (A3.trans A4)
  clear A3 A4
  go_wp2_with fail
  have A5 : Aft w3 (w3.alloc (.cells #[.int .i64 3, .int .i64 6] 3)) := (Aft.refl w3).alloc _
  refine (ints_any X2 n2 k2 _ 2 2 [3, 6] _ ((HS2.out.aft B4).aft A5) (lit_rw w3 3 [3, 6] (by simp))).mono ?_
  rintro e w4 ⟨rfl, A6⟩
  have B6 := B4.trans (A5.trans A6)
  clear A5 A6 B4
  go_wp2_with fail
  have h1 := hyphenate_any sTantrina X2 n2 k2 [3, 6] w4 (tabs_aft hT (B2.trans B6)) (HS2.out.aft B6) (by intro z hz; simp at hz; rcases hz with rfl | rfl <;> decide) z1
  rw [ex_hyp] at h1
  refine h1.mono ?_
  rintro e w5 ⟨rfl, A7⟩
  clear h1
  have B7 := B6.trans A7
  have f0 := B7.cell e0
  have f1 := B7.cell e1
  have f2 := B7.cell e2
  clear A7 B6
  go_wp2_with fail
  have h1 := onset_any _ 5 5 exL _ 2 2 (exO H) 2 2 ⟨#[116, 114]⟩ w5 ((HA.out.aft A1).aft (A2.trans B7)) ((HB.out.aft A1).aft (A2.trans B7)) z2
  rw [HMM.out, ex_on1] at h1
  refine h1.mono ?_
  rintro e w6 ⟨rfl, A8⟩
  clear h1
  have B8 := B7.trans A8
  have g0 := B8.cell e0
  have g1 := B8.cell e1
  have g2 := B8.cell e2
  go_wp2_with fail
  have h1 := onset_any _ 5 5 exL _ 2 2 (exO H) 2 2 ⟨#[114, 116]⟩ w6 ((HA.out.aft A1).aft (A2.trans B8)) ((HB.out.aft A1).aft (A2.trans B8)) z3
  rw [HMM.out, ex_on2] at h1
  refine h1.mono ?_
  rintro e w7 ⟨rfl, A9⟩
  clear h1
  go_wp2
  go_ret
  exact ⟨by first | rfl | simp, (B2.trans B8).trans A9⟩
end Go.Proofs.YtfjfgjncmliadaaDoor
