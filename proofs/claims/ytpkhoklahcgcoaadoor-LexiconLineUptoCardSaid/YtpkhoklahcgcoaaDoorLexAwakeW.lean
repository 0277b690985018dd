/-
  The chapter's examples hold: awake returns true. Condition: internal/bytealg.MaxLen holds an integer.
-/
import Derived.Test.YtpkhoklahcgcoaaDoorLexAwake
namespace Go.Proofs.YtpkhoklahcgcoaaDoor
open Go.RowKit
open FeatPlain

/-- The examples, laid. -/
def exW (w : World) : World := (w.alloc (.cells #[.string sgender, .string sf] 37)).alloc (.cells (flatL (exL w.heap.size)).toArray 24)
theorem exW_aft (w : World) : Aft w (exW w) := ((Aft.refl w).alloc _).alloc _
theorem size_small {s : ByteArray} (h : s.size ≤ 100) : s.size ≤ maxLen := by unfold maxLen; omega
theorem exW_ls (w : World) : Ls (exW w) (some ⟨w.heap.size + 1, 0, none⟩) 3 3 (exL w.heap.size) := by
  have h := World.ownsRow_lit (base := w.heap.size + 1) (e := 24) (size := 5) (w.alloc (.cells #[.string sgender, .string sf] 37)) (flatL (exL w.heap.size)).toArray 3 (by simp) (by unfold maxLen; omega) rfl
  rw [World.size_alloc] at h
  have hs : Sl (exW w) (some ⟨w.heap.size, 0, none⟩) 1 1 [(sgender, sf)] := by
    have h1 : Sl (w.alloc (.cells #[.string sgender, .string sf] 37)) (some ⟨w.heap.size, 0, none⟩) 1 1 [(sgender, sf)] := by
      refine ⟨rfl, Nat.le_refl _, by omega, by omega, fun e => (by cases e), fun i f hi => ?_⟩
      match i, hi with
      | 0, hi => simp at hi; subst hi; exact ⟨_, _, rfl, by simp, by simp⟩
    exact h1.aft ((Aft.refl _).alloc _)
  refine Ls.of_own h rfl (Nat.le_refl _) (by omega) (fun x hx => ?_)
  simp only [exL, List.mem_cons, List.not_mem_nil, or_false] at hx
  rcases hx with rfl | rfl | rfl
  · exact ⟨hs, size_small (show sx1.size ≤ 100 by decide), size_small (show sn.size ≤ 100 by decide), size_small (show sbat.size ≤ 100 by decide), size_small (show snoun.size ≤ 100 by decide)⟩
  · exact ⟨Sl.nil (show 0 ≤ 9223372036854775807 by omega) (fun _ => rfl), size_small (by decide), size_small (by decide), size_small (by decide), size_small (by decide)⟩
  · exact ⟨Sl.nil (show 0 ≤ 9223372036854775807 by omega) (fun _ => rfl), size_small (by decide), size_small (by decide), size_small (by decide), size_small (by decide)⟩
theorem ex_cats {cs : List ByteArray} {p : Nat} (h1 : AscS cs) (h2 : ∀ s, s ∈ cs ↔ ∃ x ∈ exL p, x.cat = s) : cs.length = 2 := by
  have : cs = [sn, sv] := by
    refine ascS_ext h1 (List.pairwise_cons.2 ⟨fun b hb => ?_, List.pairwise_singleton _ _⟩) (fun s => ?_)
    · rw [List.mem_singleton.1 hb]; unfold lt; rw [ByteArray.toList_eq, ByteArray.toList_eq]; rfl
    · rw [h2]
      simp [exL, ex1, ex2, ex3]
      constructor
      · rintro (h | h)
        · exact .inl h.symm
        · exact .inr h.symm
      · rintro (h | h)
        · exact .inl h.symm
        · exact .inr h.symm
  rw [this]; rfl

theorem ex1_line (p : Nat) : (lineT (ex1 p)).size ≤ 1099511627776 := by
  have h : (lineT (ex1 p)).size = 22 := by kernel_rfl
  omega
theorem ex1_text (p : Nat) : (text (ex1 p).fs).length ≤ 1099511627776 := by
  have h : (text (ex1 p).fs).length = 8 := by kernel_rfl
  omega

set_option maxRecDepth 100000 in
set_option maxHeartbeats 3200000 in
theorem awakeL_any (w : World) (hm : Mx w) : Calls Tryd.prog 6 #[] w (BoolPost w true) := by
  have AE := exW_aft w
  have HLS := Lib.hid (exW_ls w)
  have HP := Lib.hid (parse4_any sline sx3 sv sbat ⟨#[45]⟩ (exW w) (hm.aft AE) (by decide) (by decide) ex_split ⟨Sl.nil (show 0 ≤ 9223372036854775807 by omega) (fun _ => rfl), size_small (by decide), size_small (by decide), size_small (by decide), size_small (by decide)⟩ (cany_ascii _ (by decide) (by decide)) ex_line3 (by decide))
  have hE : exW w = (w.alloc (.cells #[.string sgender, .string sf] 37)).alloc (.cells (flatL (exL w.heap.size)).toArray 24) := rfl
  have HE := Lib.hid hE
  clear hE hm
  go_enter Tryd.func6, Tryd.ntmps6
  go_wp2_with fail
  refine HP.out.mono ?_
  rintro e w1 ⟨rfl, A1⟩
  have AX : Aft (exW w) (w1.alloc (.cells #[.string sx3, .string sv, .string (givenS sbat), .string (givenS ⟨#[45]⟩), .slice none 0 0] 24)) := A1.alloc _
  have x0 : (w1.alloc (.cells #[.string sx3, .string sv, .string (givenS sbat), .string (givenS ⟨#[45]⟩), .slice none 0 0] 24)).cell? ⟨w1.heap.size, 0, none⟩ = some (.string sx3) := by simp
  have HH := Lib.hid (Homonyms_any _ 3 3 _ _ (HLS.out.aft AX) (by omega))
  rw [ex_hom] at HH
  clear HP A1
  go_wp2_with fail
  refine HH.out.mono ?_
  rintro e w2 ⟨⟨hA, hn, hc, rfl, hss⟩, A2⟩
  have hn1 : hn = 1 := by have := hss.len; simpa using this.symm
  subst hn1
  obtain ⟨hb, ho, B, m, d, l, rfl, hl, hcell, hs⟩ := hss.at_ (show 0 < 1 by omega)
  have hl' : l = [sx1, sx3] := by simpa using hl.symm
  subst hl'
  have hm2 : m = 2 := by have := hs.len; simpa using this.symm
  subst hm2
  have hle := hss.le
  have hcm := hss.cmax
  rw [Nat.add_zero] at hcell
  have A02 := AX.trans A2
  have x2 := A2.cell x0
  have HI := Lib.hid (Index_any _ 3 3 _ sx2 w2 (HLS.out.aft A02))
  rw [ex_index] at HI
  clear HH AX A2 x0 hl hs hss
  go_wp2_with fail
  refine HI.out.mono ?_
  rintro e w3 ⟨rfl, A3⟩
  have A03 := A02.trans A3
  have x3 := A3.cell x2
  have hcell3 := A3.cell hcell
  have HC := Lib.hid (Category_any _ 3 3 _ sn w3 (HLS.out.aft A03) (fun x hx => by simp only [exL, List.mem_cons, List.not_mem_nil, or_false] at hx; rcases hx with rfl | rfl | rfl; exact (show 1 * 32 ≤ 140737488355328 by omega); exact (show 0 * 32 ≤ 140737488355328 by omega); exact (show 0 * 32 ≤ 140737488355328 by omega)) (by omega))
  clear HI A02 A3 x2 hcell
  go_wp2_with fail
  refine HC.out.mono ?_
  rintro e w4 ⟨⟨cA, cn, cc, ys, rfl, hys, _, hsay⟩, A4⟩
  have hcn : cn = 2 := by rw [← hys.len, ← List.length_map (f := Lx.say), hsay]; rfl
  subst hcn
  have A04 := A03.trans A4
  have x4 := A4.cell x3
  have hcell4 := A4.cell hcell3
  obtain ⟨b, off, x, hbo, hx, h5, hlw⟩ := (HLS.out.aft A04).at_ (show 0 < 3 by omega)
  cases hbo
  have hx' : x = ex1 w.heap.size := by simpa [exL] using hx.symm
  subst hx'
  obtain ⟨c0, c1, c2, c3, c4⟩ := h5
  simp only [Nat.zero_mul, Nat.zero_add, Nat.add_zero] at c0 c1 c2 c3 c4
  have HLN := Lib.hid (Line_any (ex1 w.heap.size) w4 hlw (cany_ascii sbat (by decide) (by decide)) (fun f hf => by simp only [ex1, List.mem_singleton] at hf; subst hf; exact ⟨size_small (show sgender.size ≤ 100 by decide), size_small (show sf.size ≤ 100 by decide)⟩) (ex1_line _) (ex1_text _))
  rw [ex_line1] at HLN
  dsimp only [ex1] at c0 c1 c2 c3 c4 HLN
  clear HC A03 A4 x3 hcell3 hlw hx hys hsay
  go_wp2_with fail
  refine HLN.out.mono ?_
  rintro e w5 ⟨rfl, A5⟩
  have A05 := A04.trans A5
  have x5 := A5.cell x4
  have HCT := Lib.hid (Categories_any _ 3 3 _ w5 (HLS.out.aft A05) (by omega))
  dsimp only [sx3] at x5
  clear HLN A04 A5 x4 hcell4 c0 c1 c2 c3 c4
  go_wp2_with fail
  refine HCT.out.mono ?_
  rintro e w6 ⟨⟨kA, kn, kc, cs, rfl, hks, h1, h2⟩, A6⟩
  have hkn : kn = 2 := by rw [← hks.len]; exact ex_cats h1 h2
  subst hkn
  clear HCT h1 h2 hks
  go_wp2
  go_ret
  exact ⟨rfl, AE.trans (A05.trans A6)⟩
end Go.Proofs.YtpkhoklahcgcoaaDoor
