/-
  countUpTo and Longest. Conditions: the system lies where it says, its strings are no longer than a string can be; the tables of unicode/utf8 lie as their texts say; the limit is an int.
-/
import Derived.Test.YtdehghmpfkhljaaDoorNumWds
namespace Go.Proofs.YtdehghmpfkhljaaDoor
open Go.RowKit
open NumPlain

/-- How many numbers up to a limit have words. -/
def cnt (limit : Int) : Int := (if limit ≤ 9999 then limit else 9999) + 1
theorem count_any (limit : Int) (w : World) (hl : (Lit.int .i64 limit).wf = true) : Calls Tryd.prog 38 #[.int .i64 limit] w (fun e w' => e = .returned (.int .i64 (cnt limit)) ∧ w = w') := by
  obtain ⟨h0, h1⟩ := wf_range hl
  by_cases h : limit ≤ 9999
  · have HV := Lib.hid (show cnt limit = limit + 1 by unfold cnt; rw [if_pos h])
    clear hl
    go_enter Tryd.func38, Tryd.ntmps38
    go_wp2
    go_ret
    exact ⟨by rw [HV.out]; simp; omega, rfl⟩
  · have HV := Lib.hid (show cnt limit = 10000 by unfold cnt; rw [if_neg h]; rfl)
    clear hl
    go_enter Tryd.func38, Tryd.ntmps38
    go_wp2
    go_ret
    exact ⟨by rw [HV.out]; simp; omega, rfl⟩

/-- The first number below a bound with the most words, and how many. -/
def lg (x : Nm) : Nat → Nat × Nat
  | 0 => (0, 0)
  | n + 1 => if (lg x n).2 < (wordsB x n).length then (n, (wordsB x n).length) else lg x n
theorem lg_range (x : Nm) : ∀ n, (lg x n).1 ≤ n ∧ (lg x n).2 ≤ 10
  | 0 => by simp [lg]
  | n + 1 => by
    have h := lg_range x n
    have h2 := W_len x 3 n
    rw [lg]
    unfold wordsB
    split
    · exact ⟨by simp, by simp only; omega⟩
    · omega
def longV (x : Nm) (limit : Int) : Nat × Nat := if validB x then lg x (cnt limit).toNat else (0, 0)

set_option maxHeartbeats 1600000 in
theorem longest_any (x : Nm) (limit : Int) (w : World) (hl : (Lit.int .i64 limit).wf = true) (hT : Tabs w) (hw : Nw w x) (hz : Sz x) :
    Calls Tryd.prog 20 #[nV x, .int .i64 limit] w (fun e w' => e = .returned (.tuple #[.int .i64 ((longV x limit).1 : Int), .int .i64 ((longV x limit).2 : Int)]) ∧ Aft w w') := by
  have AL : Aft w (w.alloc (.cells (nC x) 24)) := (Aft.refl w).alloc _
  obtain ⟨c0, c1, c2, c3, c4, c5, c6, c7⟩ := Bx.new w x 24
  have H1 := Lib.hid (valid_any x _ (tabs_aft hT AL) (hw.aft AL) hz)
  have HW := Lib.hid hw
  clear hT hw
  cases hv : validB x
  · rw [hv] at H1
    have HV := Lib.hid (show longV x limit = (0, 0) by unfold longV; rw [hv]; rfl)
    clear hv
    go_enter Tryd.func20, Tryd.ntmps20
    go_wp2_with fail
    refine H1.out.mono ?_
    rintro e w1 ⟨rfl, N1⟩
    clear H1
    go_wp2
    go_ret2
    exact ⟨by rw [HV.out]; rfl, AL.trans N1⟩
  · rw [hv] at H1
    have HV := Lib.hid (show longV x limit = lg x (cnt limit).toNat by unfold longV; rw [hv]; rfl)
    have HC := Lib.hid (fun n hn Bs Bw w0 h => wcall_any x (ok_of hv) n hn Bs Bw w0 h)
    have HK := Lib.hid (fun w0 => count_any limit w0 hl)
    have hcf := enterW
    have hcn : cnt limit ≤ 10000 := by unfold cnt; split <;> omega
    clear hv hl
    generalize cnt limit = C at *
    go_enter Tryd.func20, Tryd.ntmps20
    go_wp2_with fail
    refine H1.out.mono ?_
    rintro e w1 ⟨rfl, N1⟩
    clear H1
    have d0 := N1.cell c0
    have d1 := N1.cell c1
    have d2 := N1.cell c2
    have d3 := N1.cell c3
    have d4 := N1.cell c4
    have d5 := N1.cell c5
    have d6 := N1.cell c6
    have d7 := N1.cell c7
    have A1 := AL.trans N1
    go_wp2_with fail
    refine (speller_any x w1 (HW.out.aft A1)).mono ?_
    rintro e w2 ⟨Bs, Bw, rfl, hs, N2⟩
    have HS := Lib.hid hs
    have A2 := A1.trans N2
    clear hs
    go_wp2_with fail
    refine (HK.out _).mono ?_
    rintro e w3 ⟨rfl, rfl⟩
    clear c0 c1 c2 c3 c4 c5 c6 c7 d0 d1 d2 d3 d4 d5 d6 d7 HK
    go_wp2
    go_loopw [7, 8, 18] (fun a b i wr => ∃ k A' B' : Nat, ((k : Int) ≤ C ∨ k = 0) ∧ i = .int .i64 (k : Nat) ∧ a = .int .i64 (A' : Nat) ∧ b = .int .i64 (B' : Nat) ∧ (A', B') = lg x k ∧ Aft w2 wr) (fun _ _ i _ => C.toNat - (intOf i).toNat)
    case atStart => exact ⟨0, 0, 0, .inr rfl, rfl, rfl, rfl, rfl, Aft.refl _⟩
    case round =>
      obtain ⟨k, A', B', hk, rfl, rfl, rfl, hlg, haf⟩ := hrel
      have hr := lg_range x k
      rw [← hlg] at hr
      have HLG := Lib.hid hlg
      clear hlg
      by_cases hlt : (k : Int) < C
      · have hk9 : k ≤ 9999 := by omega
        have hwl := W_len x 3 k
        have HST := Lib.hid (show lg x (k + 1) = if B' < (wordsB x k).length then (k, (wordsB x k).length) else (A', B') by rw [lg, ← HLG.out])
        have hwl2 : (wordsB x k).length ≤ 10 := hwl
        have HWC := Lib.hid (HC.out k hk9 Bs Bw wr (HS.out.aft haf))
        clear hwl
        go_wp2_with fail
        refine HWC.out.mono ?_
        rintro e w4 ⟨⟨X, nx, cx, rfl, hrw⟩, N4⟩
        have hnl : (wordsB x k).length = nx := hrw.len
        rw [hnl] at HST hwl2
        clear hrw hnl HWC
        by_cases hgt : B' < nx
        · have HS2 := Lib.hid (show lg x (k + 1) = (k, nx) by rw [HST.out, if_pos hgt])
          have hgt' : (B' : Int) < (nx : Int) := by omega
          go_wp2
          go_roundw
          case rel => exact ⟨k + 1, k, nx, by omega, by go_num, rfl, rfl, HS2.out.symm, haf.trans N4⟩
          case measure => simp [intOf]; omega
        · have HS2 := Lib.hid (show lg x (k + 1) = (A', B') by rw [HST.out, if_neg hgt])
          have hgt' : ¬ (B' : Int) < (nx : Int) := by omega
          go_wp2
          go_roundw
          case rel => exact ⟨k + 1, A', B', by omega, by go_num, rfl, rfl, HS2.out.symm, haf.trans N4⟩
          case measure => simp [intOf]; omega
      · have HF := Lib.hid (show lg x C.toNat = (A', B') by rw [show C.toNat = k by omega]; exact HLG.out.symm)
        go_wp2
        go_ret2
        exact ⟨by rw [HV.out, HF.out]; rfl, A2.trans haf⟩
end Go.Proofs.YtdehghmpfkhljaaDoor
