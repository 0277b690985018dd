/-
  The dates of a day: SolarDate, CycleDate, and the reference's. Conditions: 'Tab'.
-/
import Derived.Test.YtdeojpmimhagjaaDoorCalOps
namespace Go.Proofs.YtdeojpmimhagjaaDoor
open Go.RowKit
open CalPlain

theorem BoxD.setY {w : World} {p : Nat} {c y m d : Int} {l : Bool} (h : BoxD w p c y m d l) (y' : Int) : BoxD (w.setCell ⟨p, 1, none⟩ (.int .i64 y')) p c y' m d l := heap_setCell_same _ _ _ _ _ _ h
theorem BoxD.setM {w : World} {p : Nat} {c y m d : Int} {l : Bool} (h : BoxD w p c y m d l) (m' : Int) : BoxD (w.setCell ⟨p, 2, none⟩ (.int .i64 m')) p c y m' d l := heap_setCell_same _ _ _ _ _ _ h
theorem BoxD.setDay {w : World} {p : Nat} {c y m d : Int} {l : Bool} (h : BoxD w p c y m d l) (d' : Int) : BoxD (w.setCell ⟨p, 3, none⟩ (.int .i64 d')) p c y m d' l := heap_setCell_same _ _ _ _ _ _ h

theorem solarDate_any (y m d : Int) (w : World) : Calls Tryd.prog 41 #[.int .i64 y, .int .i64 m, .int .i64 d] w (ValPost w (.agg #[.int .i64 1, .int .i64 y, .int .i64 m, .int .i64 d, .bool false])) := by
  go_enter Tryd.func41, Tryd.ntmps41
  go_wp2
  refine bodyPost_ret (v := (.agg #[.int .i64 1, .int .i64 y, .int .i64 m, .int .i64 d, .bool false])) (by simp [results, go_sem]) rfl ?_
  exact ⟨rfl, (Aft.refl _).alloc _⟩
theorem cycleDate_any (y m d : Int) (w : World) : Calls Tryd.prog 42 #[.int .i64 y, .int .i64 m, .int .i64 d] w (ValPost w (.agg #[.int .i64 3, .int .i64 y, .int .i64 m, .int .i64 d, .bool false])) := by
  go_enter Tryd.func42, Tryd.ntmps42
  go_wp2
  refine bodyPost_ret (v := (.agg #[.int .i64 3, .int .i64 y, .int .i64 m, .int .i64 d, .bool false])) (by simp [results, go_sem]) rfl ?_
  exact ⟨rfl, (Aft.refl _).alloc _⟩

/-- The value of a cycle date of a day: where n is no day, the zero date. -/
def cyC (n : Int) : Int := if 0 ≤ n ∧ n ≤ 999999 then 3 else 0
def cyY (n : Int) : Int := if 0 ≤ n ∧ n ≤ 999999 then n / 260 else 0
def cyM (n : Int) : Int := if 0 ≤ n ∧ n ≤ 999999 then n % 13 + 1 else 0
def cyD (n : Int) : Int := if 0 ≤ n ∧ n ≤ 999999 then n % 20 else 0
theorem cy_in {n : Int} (h0 : 0 ≤ n) (h : n ≤ 999999) : cyC n = 3 ∧ cyY n = n / 260 ∧ cyM n = n % 13 + 1 ∧ cyD n = n % 20 ∧ ckV n = 0 := ⟨if_pos ⟨h0, h⟩, if_pos ⟨h0, h⟩, if_pos ⟨h0, h⟩, if_pos ⟨h0, h⟩, ckV_ok h0 h⟩
theorem cy_out {n : Int} (h : ¬ (0 ≤ n ∧ n ≤ 999999)) : cyC n = 0 ∧ cyY n = 0 ∧ cyM n = 0 ∧ cyD n = 0 := ⟨if_neg h, if_neg h, if_neg h, if_neg h⟩
theorem CycleDate_any (n : Int) (w : World) : Calls Tryd.prog 28 #[.int .i64 n] w (ValPost w (.tuple #[(.agg #[.int .i64 (cyC n), .int .i64 (cyY n), .int .i64 (cyM n), .int .i64 (cyD n), .bool false]), .int .i64 (ckV n)])) := by
  have HC := Lib.hid (fun w => checkDay_any n w)
  by_cases h : 0 ≤ n ∧ n ≤ 999999
  · obtain ⟨h0, h⟩ := h
    obtain ⟨e0, e1, e2, e3, e4⟩ := cy_in h0 h
    rw [e0, e1, e2, e3, e4]
    rw [e4] at HC
    clear e0 e1 e2 e3 e4
    have b0 := BoxD.new w 0 0 0 0 false
    have A0 := (Aft.refl w).alloc (.cells #[.int .i64 0, .int .i64 0, .int .i64 0, .int .i64 0, .bool false] 30)
    go_enter Tryd.func28, Tryd.ntmps28
    go_wp2_with fail
    refine (HC.out _).mono ?_
    rintro e w' ⟨rfl, rfl⟩
    go_wp2_with fail
    refine (cycleDate_any _ _ _ _).mono ?_
    rintro e w1 ⟨rfl, N1⟩
    have b1 := b0.aft N1
    have A1 := A0.trans N1
    obtain ⟨c0, c1, c2, c3, c4⟩ := b1.five
    have g0 := b1.frozen 0; have g1 := b1.frozen 1; have g2 := b1.frozen 2; have g3 := b1.frozen 3; have g4 := b1.frozen 4
    clear b0 b1 A0
    go_wp2
    refine bodyPost_ret (v := .tuple #[(.agg #[.int .i64 3, .int .i64 (n / 260), .int .i64 (n % 13 + 1), .int .i64 (n % 20), .bool false]), .int .i64 0]) (by rw [results_cell_tmp rfl]; simp [go_sem, c0, c1, c2, c3, c4]) rfl ?_
    exact ⟨rfl, A1.set5 (Nat.le_refl _) _ _ _ _ _⟩
  · obtain ⟨e0, e1, e2, e3⟩ := cy_out h
    rw [e0, e1, e2, e3]
    clear e0 e1 e2 e3
    by_cases k : n < 0
    · rw [ckV_neg k] at HC ⊢
      go_enter Tryd.func28, Tryd.ntmps28
      go_wp2_with fail
      refine (HC.out _).mono ?_
      rintro e w' ⟨rfl, rfl⟩
      go_wp2
      refine bodyPost_ret (v := .tuple #[(.agg #[.int .i64 0, .int .i64 0, .int .i64 0, .int .i64 0, .bool false]), .int .i64 1]) (by rw [results_cell_tmp rfl]; simp [go_sem]) rfl ?_
      exact ⟨rfl, (Aft.refl _).alloc _⟩
    · rw [ckV_big (by omega)] at HC ⊢
      go_enter Tryd.func28, Tryd.ntmps28
      go_wp2_with fail
      refine (HC.out _).mono ?_
      rintro e w' ⟨rfl, rfl⟩
      go_wp2
      refine bodyPost_ret (v := .tuple #[(.agg #[.int .i64 0, .int .i64 0, .int .i64 0, .int .i64 0, .bool false]), .int .i64 2]) (by rw [results_cell_tmp rfl]; simp [go_sem]) rfl ?_
      exact ⟨rfl, (Aft.refl _).alloc _⟩
theorem refCycleDate_any (n : Int) (w : World) : Calls Tryd.prog 29 #[.int .i64 n] w (ValPost w (.tuple #[(.agg #[.int .i64 (cyC n), .int .i64 (cyY n), .int .i64 (cyM n), .int .i64 (cyD n), .bool false]), .int .i64 (ckV n)])) := by
  by_cases h : 0 ≤ n ∧ n ≤ 999999
  · obtain ⟨h0, h⟩ := h
    obtain ⟨e0, e1, e2, e3, e4⟩ := cy_in h0 h
    rw [e0, e1, e2, e3, e4]
    clear e0 e1 e2 e3 e4
    go_enter Tryd.func29, Tryd.ntmps29
    go_wp2
    refine bodyPost_ret (v := .tuple #[(.agg #[.int .i64 3, .int .i64 (n / 260), .int .i64 (n % 13 + 1), .int .i64 (n % 20), .bool false]), .int .i64 0]) (by rw [results_cell_tmp rfl]; simp [go_sem]) rfl ?_
    exact ⟨rfl, (Aft.refl _).alloc _⟩
  · obtain ⟨e0, e1, e2, e3⟩ := cy_out h
    rw [e0, e1, e2, e3]
    clear e0 e1 e2 e3
    by_cases k : n < 0
    · rw [ckV_neg k]
      go_enter Tryd.func29, Tryd.ntmps29
      go_wp2
      refine bodyPost_ret (v := .tuple #[(.agg #[.int .i64 0, .int .i64 0, .int .i64 0, .int .i64 0, .bool false]), .int .i64 1]) (by rw [results_cell_tmp rfl]; simp [go_sem]) rfl ?_
      exact ⟨rfl, (Aft.refl _).alloc _⟩
    · have k2 : 999999 < n := by omega
      rw [ckV_big k2]
      go_enter Tryd.func29, Tryd.ntmps29
      go_wp2
      refine bodyPost_ret (v := .tuple #[(.agg #[.int .i64 0, .int .i64 0, .int .i64 0, .int .i64 0, .bool false]), .int .i64 2]) (by rw [results_cell_tmp rfl]; simp [go_sem]) rfl ?_
      exact ⟨rfl, (Aft.refl _).alloc _⟩

/-- What SolarDate says of the number n. -/
def SolIs (n c y m d : Int) : Prop := (0 ≤ n ∧ n ≤ 999999 ∧ c = 1 ∧ okD y m d ∧ num y m d = n) ∨ (¬ (0 ≤ n ∧ n ≤ 999999) ∧ c = 0 ∧ y = 0 ∧ m = 0 ∧ d = 0)
theorem SolIs.unique {n c y m d c' y' m' d' : Int} (h : SolIs n c y m d) (k : SolIs n c' y' m' d') : c = c' ∧ y = y' ∧ m = m' ∧ d = d' := by
  rcases h with ⟨a0, a1, rfl, a2, a3⟩ | ⟨a0, rfl, rfl, rfl, rfl⟩
  · rcases k with ⟨_, _, rfl, b2, b3⟩ | ⟨b0, _⟩
    · obtain ⟨x, x1, x2⟩ := num_inj a2 b2 (a3.trans b3.symm)
      exact ⟨rfl, x, x1, x2⟩
    · exact absurd ⟨a0, a1⟩ b0
  · rcases k with ⟨b0, b1, _⟩ | ⟨_, rfl, rfl, rfl, rfl⟩
    · exact absurd ⟨b0, b1⟩ a0
    · exact ⟨rfl, rfl, rfl, rfl⟩
theorem SolIs.of {y m d : Int} (h : okD y m d) (k : num y m d ≤ 999999) : SolIs (num y m d) 1 y m d := by
  have h1 := (num_range h).1
  have h2 := ys_ge h.in_.1
  exact .inl ⟨by have := h.in_.1; omega, k, rfl, h, rfl⟩
def SolPost (w : World) (n : Int) (e : Ending) (w' : World) : Prop := ∃ c y m d : Int, e = .returned (.tuple #[(.agg #[.int .i64 c, .int .i64 y, .int .i64 m, .int .i64 d, .bool false]), .int .i64 (ckV n)]) ∧ SolIs n c y m d ∧ Aft w w'

set_option maxRecDepth 100000 in
set_option maxHeartbeats 1600000 in
theorem SolarDate_any (n : Int) (w : World) (ht : Tab w) : Calls Tryd.prog 24 #[.int .i64 n] w (SolPost w n) := by
  have HC := Lib.hid (fun w => checkDay_any n w)
  by_cases h : 0 ≤ n ∧ n ≤ 999999
  · obtain ⟨h0, h⟩ := h
    have HE := Lib.hid (ckV_ok h0 h)
    rw [HE.out] at HC
    have A0 := (Aft.refl w).alloc (.cells #[.int .i64 0, .int .i64 0, .int .i64 0, .int .i64 0, .bool false] 30)
    have b0 := BoxD.new w 0 0 0 0 false
    have t0 := ht.aft A0
    clear ht
    have HY := Lib.hid (fun w => yearOf_any n w h0 h)
    go_enter Tryd.func24, Tryd.ntmps24
    go_wp2_with fail
    refine (HC.out _).mono ?_
    rintro e w' ⟨rfl, rfl⟩
    go_wp2_with fail
    refine (HY.out _).mono ?_
    rintro e w' ⟨y, rfl, ⟨y0, y1, y2, y3⟩, rfl⟩
    go_wp2_with fail
    refine (yearStart_any y _ y0 (by omega)).mono ?_
    rintro e w' ⟨rfl, rfl⟩
    have HT := Lib.hid t0
    have HN := Lib.hid (ys_succ y0)
    have HM := Lib.hid (cum_twelve y y0)
    clear t0
    have hS0 : (0 : Int) ≤ ys y := by have := ys_ge y0; omega
    have hy3 : n < ys y + (365 + lp y) := by rw [← HN.out]; exact y3
    clear y3
    generalize hS : ys y = S at *
    have HS := Lib.hid hS
    clear hS
    go_wp2
    go_loop [6, 7] (fun i r => ∃ m : Int, i = .int .i64 m ∧ 1 ≤ m ∧ m ≤ 12 ∧ r = .int .i64 (n - S - cum m) ∧ 0 ≤ n - S - cum m) (fun i _ => (12 - intOf i).toNat)
    case atStart => exact ⟨1, rfl, by omega, by omega, by rw [cum_one]; simp, by rw [cum_one]; omega⟩
    case round =>
      obtain ⟨m, rfl, m0, m1, rfl, hr⟩ := hrel
      have hcb := cum_bd m0 m1
      by_cases hc : mdays y m ≤ n - S - cum m
      · have hm12 : m < 12 := by
          by_cases e : m = 12
          · subst e; have := HM.out; omega
          · omega
        have HS2 := Lib.hid (cum_succ y0 m0 hm12)
        have hb := mdays_bd y m
        have hm := fun w ht => mdays_any y m w ht
        generalize mdays y m = M at *
        generalize hq : cum m = q at *
        have HQ := Lib.hid hq
        have HMM := Lib.hid hm
        clear hq hm
        go_wp2_with fail
        refine (HMM.out _ HT.out).mono ?_
        rintro e w' ⟨rfl, rfl⟩
        go_wp2_with fail
        refine (HMM.out _ HT.out).mono ?_
        rintro e w' ⟨rfl, rfl⟩
        go_wp2
        go_round
        case rel => exact ⟨m + 1, rfl, by omega, by omega, by rw [HS2.out]; go_num, by rw [HS2.out]; omega⟩
        case measure => simp [intOf]; omega
      · have hb := mdays_bd y m
        have HOK := Lib.hid (show okD y m (n - S - cum m + 1) from ⟨by omega, by omega⟩)
        have HNM := Lib.hid (show num y m (n - S - cum m + 1) = n by rw [← HS.out]; exact num_of_rest n y m)
        have hm := fun w ht => mdays_any y m w ht
        have hr31 : n - S - cum m < 31 := by omega
        generalize mdays y m = M at *
        have hw : IntKind.i64.wrap (n - S - cum m) = n - S - cum m := IntWalk.i64_in _ (by omega)
        have HR := Lib.hid hr
        generalize hq : n - S - cum m = q at *
        clear hq
        have HMM := Lib.hid hm
        clear hm hw
        go_wp2_with fail
        refine (HMM.out _ HT.out).mono ?_
        rintro e w' ⟨rfl, rfl⟩
        go_wp2_with fail
        refine (solarDate_any _ _ _ _).mono ?_
        rintro e w1 ⟨rfl, N1⟩
        have b1 := b0.aft N1
        have A1 := A0.trans N1
        obtain ⟨c0, c1, c2, c3, c4⟩ := b1.five
        have g0 := b1.frozen 0; have g1 := b1.frozen 1; have g2 := b1.frozen 2; have g3 := b1.frozen 3; have g4 := b1.frozen 4
        clear b0 b1 A0
        go_wp2
        refine bodyPost_ret (v := .tuple #[(.agg #[.int .i64 1, .int .i64 y, .int .i64 m, .int .i64 (q + 1), .bool false]), .int .i64 0]) (by rw [results_cell_tmp rfl]; simp [go_sem, c0, c1, c2, c3, c4]) rfl ?_
        exact ⟨1, y, m, q + 1, by rw [HE.out], .inl ⟨h0, h, rfl, HOK.out, HNM.out⟩, A1.set5 (Nat.le_refl _) _ _ _ _ _⟩
  · by_cases k : n < 0
    · have HE := Lib.hid (ckV_neg k)
      rw [HE.out] at HC
      go_enter Tryd.func24, Tryd.ntmps24
      go_wp2_with fail
      refine (HC.out _).mono ?_
      rintro e w' ⟨rfl, rfl⟩
      go_wp2
      refine bodyPost_ret (v := .tuple #[(.agg #[.int .i64 0, .int .i64 0, .int .i64 0, .int .i64 0, .bool false]), .int .i64 1]) (by rw [results_cell_tmp rfl]; simp [go_sem]) rfl ?_
      exact ⟨0, 0, 0, 0, by rw [HE.out], .inr ⟨h, rfl, rfl, rfl, rfl⟩, (Aft.refl _).alloc _⟩
    · have HE := Lib.hid (ckV_big (n := n) (by omega))
      rw [HE.out] at HC
      go_enter Tryd.func24, Tryd.ntmps24
      go_wp2_with fail
      refine (HC.out _).mono ?_
      rintro e w' ⟨rfl, rfl⟩
      go_wp2
      refine bodyPost_ret (v := .tuple #[(.agg #[.int .i64 0, .int .i64 0, .int .i64 0, .int .i64 0, .bool false]), .int .i64 2]) (by rw [results_cell_tmp rfl]; simp [go_sem]) rfl ?_
      exact ⟨0, 0, 0, 0, by rw [HE.out], .inr ⟨h, rfl, rfl, rfl, rfl⟩, (Aft.refl _).alloc _⟩

set_option maxRecDepth 100000 in
set_option maxHeartbeats 1600000 in
theorem refSolarDate_any (n : Int) (w : World) : Calls Tryd.prog 25 #[.int .i64 n] w (SolPost w n) := by
  by_cases h : 0 ≤ n ∧ n ≤ 999999
  · obtain ⟨h0, h⟩ := h
    have HE := Lib.hid (ckV_ok h0 h)
    have A0 := ((Aft.refl w).alloc (.cells #[.int .i64 0, .int .i64 0, .int .i64 0, .int .i64 0, .bool false] 30)).alloc (.cells #[.int .i64 1, .int .i64 0, .int .i64 1, .int .i64 0, .bool false] 30)
    have b0 := (BoxD.new w 0 0 0 0 false).aft ((Aft.refl _).alloc (.cells #[.int .i64 1, .int .i64 0, .int .i64 1, .int .i64 0, .bool false] 30))
    have b1 := BoxD.new' (w.alloc (.cells #[.int .i64 0, .int .i64 0, .int .i64 0, .int .i64 0, .bool false] 30)) 1 0 1 0 false (H := w.heap.size + 1) (by simp)
    have hn1 : n < 1000000 := by omega
    go_enter Tryd.func25, Tryd.ntmps25
    go_wp2
    go_loopw [0] (fun s wr => ∃ y : Int, s = .int .i64 (n - ys y) ∧ 0 ≤ y ∧ 0 ≤ n - ys y ∧ BoxD wr w.heap.size 0 0 0 0 false ∧ BoxD wr (w.heap.size + 1) 1 y 1 0 false ∧ Aft w wr) (fun s _ => (intOf s).toNat)
    case atStart => exact ⟨0, by rw [ys_zero]; simp, by omega, by rw [ys_zero]; omega, b0, b1, A0⟩
    case round =>
      obtain ⟨y, rfl, y0, hr, q0, q1, haf⟩ := hrel
      clear b0 b1 A0
      have hge := ys_ge y0
      have hy27 : y ≤ 2739 := by omega
      have hl := lp_01 y
      have HB0 := Lib.hid q0
      have HB1 := Lib.hid q1
      obtain ⟨c0, c1, c2, c3, c4⟩ := q1.five
      have g0 := q1.frozen 0; have g1 := q1.frozen 1; have g2 := q1.frozen 2; have g3 := q1.frozen 3; have g4 := q1.frozen 4
      have HS := Lib.hid (ys_succ y0)
      have hyd := Lib.hid (fun w => refYd_any y w y0)
      have HM := Lib.hid (cum_twelve y y0)
      clear q0 q1
      generalize hS : ys y = S at *
      have HSS := Lib.hid hS
      clear hS
      by_cases hc : 365 + lp y ≤ n - S
      · generalize lp y = L at *
        go_wp2_with fail
        refine (hyd.out _).mono ?_
        rintro e w' ⟨rfl, rfl⟩
        go_wp2_with fail
        refine (hyd.out _).mono ?_
        rintro e w' ⟨rfl, rfl⟩
        go_wp2
        go_roundw
        case rel => exact ⟨y + 1, by rw [HS.out]; go_num, by omega, by rw [HS.out]; omega, HB0.out.other (by simp) _, HB1.out.setY _, haf.setCell (by simp) _⟩
        case measure => simp [intOf]; omega
      · go_wp2_with fail
        refine (hyd.out _).mono ?_
        rintro e w' ⟨rfl, rfl⟩
        clear c0 c1 c2 c3 c4 g0 g1 g2 g3 g4
        have hy3 : n < S + (365 + lp y) := by omega
        clear hc hyd
        have hR0 := HB0.out; have hR1 := HB1.out
        go_wp2
        generalize hW : wr = W1 at *
        have HW := Lib.hid hW
        clear hW
        go_loopw [0] (fun s wr => ∃ m : Int, s = .int .i64 (n - S - cum m) ∧ 1 ≤ m ∧ m ≤ 12 ∧ 0 ≤ n - S - cum m ∧ BoxD wr w.heap.size 0 0 0 0 false ∧ BoxD wr (w.heap.size + 1) 1 y m 0 false ∧ Aft w wr) (fun s _ => (intOf s).toNat)
        case atStart => exact ⟨1, by rw [cum_one]; simp, by omega, by omega, by rw [cum_one]; omega, HB0.out, HB1.out, haf⟩
        case round =>
          obtain ⟨m, rfl, m0, m1, hr', q0, q1, haf'⟩ := hrel
          clear hR0 hR1 HB0 HB1 haf HW
          have hcb := cum_bd m0 m1
          have HB0 := Lib.hid q0
          have HB1 := Lib.hid q1
          obtain ⟨c0, c1, c2, c3, c4⟩ := q1.five
          have g0 := q1.frozen 0; have g1 := q1.frozen 1; have g2 := q1.frozen 2; have g3 := q1.frozen 3; have g4 := q1.frozen 4
          obtain ⟨d0, d1, d2, d3, d4⟩ := q0.five
          have k0 := q0.frozen 0; have k1 := q0.frozen 1; have k2 := q0.frozen 2; have k3 := q0.frozen 3; have k4 := q0.frozen 4
          clear q0 q1
          have hm := Lib.hid (fun w => refMdays_any y m w)
          have hb := mdays_bd y m
          have hp := mdays_pos y0 m0 m1
          by_cases hc : mdays y m ≤ n - S - cum m
          · have hm12 : m < 12 := by
              by_cases e : m = 12
              · subst e; have := HM.out; omega
              · omega
            have HS2 := Lib.hid (cum_succ y0 m0 hm12)
            generalize mdays y m = M at *
            generalize hq : cum m = q at *
            clear hq
            go_wp2_with fail
            refine (hm.out _).mono ?_
            rintro e w' ⟨rfl, rfl⟩
            go_wp2_with fail
            refine (hm.out _).mono ?_
            rintro e w' ⟨rfl, rfl⟩
            go_wp2
            go_roundw
            case rel => exact ⟨m + 1, by rw [HS2.out]; go_num, by omega, by omega, by rw [HS2.out]; omega, HB0.out.other (by simp) _, HB1.out.setM _, haf'.setCell (by simp) _⟩
            case measure => simp [intOf]; omega
          · have HOK := Lib.hid (show okD y m (n - S - cum m + 1) from ⟨by omega, by omega⟩)
            have HNM := Lib.hid (show num y m (n - S - cum m + 1) = n by rw [← HSS.out]; exact num_of_rest n y m)
            have hr31 : n - S - cum m < 31 := by omega
            generalize mdays y m = M at *
            generalize hq : n - S - cum m = q at *
            clear hq
            go_wp2_with fail
            refine (hm.out _).mono ?_
            rintro e w' ⟨rfl, rfl⟩
            go_wp2
            refine bodyPost_ret (v := .tuple #[(.agg #[.int .i64 1, .int .i64 y, .int .i64 m, .int .i64 (q + 1), .bool false]), .int .i64 0]) (by rw [results_cell_tmp rfl]; simp [go_sem, d0, d1, d2, d3, d4]) rfl ?_
            exact ⟨1, y, m, q + 1, by rw [HE.out], .inl ⟨h0, h, rfl, HOK.out, HNM.out⟩, (haf'.setCell (by simp) _).set5 (Nat.le_refl _) _ _ _ _ _⟩
  · by_cases k : n < 0
    · have HE := Lib.hid (ckV_neg k)
      go_enter Tryd.func25, Tryd.ntmps25
      go_wp2
      refine bodyPost_ret (v := .tuple #[(.agg #[.int .i64 0, .int .i64 0, .int .i64 0, .int .i64 0, .bool false]), .int .i64 1]) (by rw [results_cell_tmp rfl]; simp [go_sem]) rfl ?_
      exact ⟨0, 0, 0, 0, by rw [HE.out], .inr ⟨h, rfl, rfl, rfl, rfl⟩, (Aft.refl _).alloc _⟩
    · have k2 : 999999 < n := by omega
      have HE := Lib.hid (ckV_big k2)
      go_enter Tryd.func25, Tryd.ntmps25
      go_wp2
      refine bodyPost_ret (v := .tuple #[(.agg #[.int .i64 0, .int .i64 0, .int .i64 0, .int .i64 0, .bool false]), .int .i64 2]) (by rw [results_cell_tmp rfl]; simp [go_sem]) rfl ?_
      exact ⟨0, 0, 0, 0, by rw [HE.out], .inr ⟨h, rfl, rfl, rfl, rfl⟩, (Aft.refl _).alloc _⟩
end Go.Proofs.YtdeojpmimhagjaaDoor
