/-
  divide returns the parts of an amount. Conditions: the slice holds at most 12 units of sizes from 1 on; the amount is from 0 to 2^62.
-/
import Derived.Test.YteknfigpjhngfaaMeasDiv2
namespace Go.Proofs.Yteknfigpjhngfaa
open Go.RowKit Go.Shelf
open MeasPlain

attribute [local go_sem] Oper.semAt_some

set_option maxRecDepth 100000 in
set_option maxHeartbeats 4000000 in
theorem divide_any (A : Option Addr) (n c : Nat) (us : List Un) (N : Int) (w : World) (ha : Ul w A n c us) (hu : ∀ u ∈ us, 1 ≤ u.2) (hn : n ≤ 12) (hN : 0 ≤ N) (hN1 : N ≤ 4611686018427387904) :
    Calls Try.prog 29 #[.slice A n c, .int .i64 N] w (DivPost w (parts (szs us) N)) := by
  have hnm := ha.max
  have hnc := ha.le
  have hlu := ha.len
  have HL := Lib.hid hlu
  have HC := Lib.hid ha
  have hA : 0 < n → ∀ a, A = some a → a.block < w.heap.size := by
    intro h0 a e
    obtain ⟨b, off, l, rfl, _, g1, _⟩ := ha.at_ h0
    cases e
    exact World.block_lt_of_cell? w _ g1
  obtain ⟨i0, hi, hz0, hz1, hz2⟩ := info_parts Try.infoI
  have hmk : ∀ w', (Instr.makeSlice 45 (.int .i64 (n : Int)) (.int .i64 (n : Int))).run Try.prog w' = .ok (.slice (some ⟨w'.heap.size, 0, none⟩) n n) (w'.alloc (.cells (List.replicate n (Value.int .i64 0)).toArray 3)) := by
    intro w'
    have h := run_makeSlice (P := Try.prog) (w := w') 45 3 i0 (.int .i64 0) Try.underlying45 hi hz0 .i64 .i64 (n : Int) (n : Int) (by omega) (Int.le_refl _) (by rw [hz1, Int.toNat_natCast]; omega) (by rw [hz2]; omega) (by omega)
    rw [hz1, Int.toNat_natCast, Nat.mul_one, made_ints] at h
    exact h
  clear ha hlu
  refine (callsIn_wide (n := 3)).1 ?_
  refine callsIn_of_wp_marks Try.func29 rfl trivial ?_ rfl
  simp only [Try.ntmps29, List.size_toArray, List.length_cons, List.length_nil, Nat.reduceAdd, Nat.reduceSub, Array.replicate_succ, Array.replicate_zero, List.push_toArray, List.append_toArray, List.nil_append, List.cons_append]
  gi_wp2_with (refine ⟨trivial, ?_⟩; gi_at_call 39; refine (callsIn_wide.2 (backward_any A n c _)).mono ?_; rintro e' w1 ⟨rfl, rfl⟩)
  have hS0 := div_start A n c N w
  obtain ⟨W0, hW0⟩ : ∃ W0, ((((w.alloc (.cells #[.int .i64 N] 3)).alloc (.cells #[.func (.func 38) #[] #[.pointer (some ⟨w.heap.size, 0, none⟩)]] 52)).alloc (.cells (Array.replicate n (.int .i64 0)) 3)).alloc (.cells #[.slice (some ⟨w.heap.size + 1 + 1, 0, none⟩) n n] 45)).alloc (.cells #[.slice A n c] 46) = W0 := ⟨_, rfl⟩
  have hsz : W0.heap.size = w.heap.size + 1 + 1 + 1 + 1 + 1 := by rw [← hW0]; simp
  rw [hW0] at hS0 ⊢
  clear hW0
  rw [← HL.out] at hS0
  have hnl := HL.out
  refine wpIn_rangeFunc_ownH rfl (by omega) (gf := 46) (lb := #[.pointer (some ⟨w.heap.size + 1 + 1 + 1 + 1, 0, none⟩)]) rfl trivial (enters_of Try.func46 (by kernel_rfl) rfl)
    (back_stops 2 (by omega) (w.heap.size + 1 + 1 + 1 + 1) w.heap.size A n c us hu W0 (by rw [hnl] at hS0; exact hS0.sbox) (HC.out.aft hS0.aft) hA) Keep.trans (keep_b (by omega)) (Below.refl _ _) (fun _ => rfl)
    (fun pre W => DivS w A n c (runD us N pre).2 (runD us N pre).1 W)
    (fun _ _ _ => False)
    (fun s X Y row hs hg hr => hs.kept hg (fun q e => by have := (hr q e).1; omega) (fun q e => (hr q e).2))
    (fun _ _ _ _ _ hs _ _ => hs)
    (by have h := hS0; rw [hnl] at h; unfold runD; rw [hnl]; exact h)
    (fun x a' W => ∃ (Bx : Nat) (u0 u1 u2 u3 u4 u9 u10 u11 u12 u13 u14 u15 u16 u17 u18 u19 u20 u21 u22 u23 : Value), W.cell? ⟨Bx, 0, none⟩ = some (.string x.1.2.1) ∧ W.cell? ⟨Bx, 1, none⟩ = some (.int .i64 x.1.2.2) ∧ a' = { tmps := #[u0, u1, u2, u3, u4, .pointer (some ⟨w.heap.size + 1, 0, none⟩), .pointer (some ⟨w.heap.size + 1 + 1 + 1, 0, none⟩), .int .i64 (x.1.1 : Int), .pointer (some ⟨Bx, 0, none⟩), u9, u10, u11, u12, u13, u14, u15, u16, u17, u18, u19, u20, u21, u22, u23], defers := [] })
    (fun x a' _ X Y row hs hg hr => by
      obtain ⟨Bx, u0, u1, u2, u3, u4, u9, u10, u11, u12, u13, u14, u15, u16, u17, u18, u19, u20, u21, u22, u23, h1, h2, h3⟩ := hs
      exact ⟨Bx, u0, u1, u2, u3, u4, u9, u10, u11, u12, u13, u14, u15, u16, u17, u18, u19, u20, u21, u22, u23, cell_kept h1 hg (fun r e => (hr r e).2), cell_kept h2 hg (fun r e => (hr r e).2), h3⟩)
    ?assign ?body ?done ?stop
  case assign =>
    rintro l pre x W K hD hK
    have AL : Aft W (W.alloc (.cells #[.string x.1.2.1, .int .i64 x.1.2.2] 44)) := (Aft.refl W).alloc _
    have tc := two_cells W (.string x.1.2.1) (.int .i64 x.1.2.2) 44
    dsimp only [encU]
    gi_wp2
    exact hK _ _ ((KeepsOthers.alloc _ _).from _) ⟨(Below.refl _ W).alloc hD.aft.size _, fun v hv => AL.cell hv⟩ (hD.more AL) ⟨W.heap.size, _, _, _, _, _, _, _, _, _, _, _, _, _, _, _, _, _, _, _, _, tc.1, tc.2, rfl⟩
  case body =>
    rintro l pre x a' W hl _ hD ⟨Bx, u0, u1, u2, u3, u4, u9, u10, u11, u12, u13, u14, u15, u16, u17, u18, u19, u20, u21, u22, u23, h1, h2, rfl⟩ hlt
    have hd : 1 ≤ 3 - 1 - 1 := by omega
    have hmx : Try.prog.follows .mixedOrders = true := by kernel_rfl
    have hcf := enterTake
    have hrg := runD_range us hN pre
    have hdl := runD_len us N pre
    have HR := Lib.hid (runD_snoc us N pre x)
    have hxl : x.1.1 < us.length := (List.getElem?_eq_some_iff.1 x.2.1).1
    have hx1 := x.2.2
    unfold stepD at HR
    generalize (runD us N pre).2 = r at *
    generalize (runD us N pre).1 = d at *
    generalize x.1.2.2 = s at *
    generalize x.1.2.1 = nm at *
    generalize x.1.1 = k at *
    have hkn : k < n := by omega
    have hdk : k < d.length := by omega
    have hki : (k : Int) < (n : Int) := by omega
    have HT : ∀ W1, DivS w A n c r d W1 → Calls Try.prog 38 #[.agg #[.string nm, .int .i64 s], .pointer (some ⟨w.heap.size, 0, none⟩)] W1 (fun e W2 => e = .returned (.int .i64 (r / s)) ∧ DivS w A n c (r % s) d W2 ∧ KeepsFrom W0.heap.size W1 W2 ∧ Below w.heap.size W1 W2) := by
      intro W1 h1
      refine (take_any (nm, s) w.heap.size r W1 h1.nbox h1.nfr hrg.1 (by omega) hx1).mono ?_
      rintro e W2 ⟨rfl, rfl⟩
      exact ⟨rfl, (h1.more ((Aft.refl W1).alloc _)).setN _, ((KeepsOthers.alloc W1 _).trans (KeepsOthers.setCell _ _ _)).from _, ((Below.refl _ W1).alloc h1.aft.size _).setCell (Nat.le_refl _) _⟩
    have HTH := Lib.hid HT
    have HD := Lib.hid hD
    have b1 := hD.obox
    have b2 := hD.tbox
    clear HT hD hnl hmk hA
    gi_wp2
    gi_region_with_o (refine ⟨trivial, ?_⟩; gi_at_call 38; refine (CallsIn.inRound l (callsIn_wide.2 (HTH.out _ (by first | exact HD.out | exact HD.out.more (Below.drew (Aft.refl _)))))).mono ?_; rintro e' W2 ⟨rfl, hD2, hK2, hB2⟩; have q1 := hD2.obox; have q2 := hD2.row k _ (List.getElem?_eq_getElem (by omega)); have q3 := hD2.rfr k (by omega); have HD2 := Lib.hid hD2; clear hD2)
    all_goals (have h := div_leaf HD.out HD2.out hK2 hB2 hdk (r / s); refine ⟨h.1, h.2.1, ?_⟩; show DivS _ _ _ _ (runD us N (pre ++ [x])).2 (runD us N (pre ++ [x])).1 _; rw [HR.out]; exact h.2.2)
  case done =>
    rintro D ys W hD hy hS hK
    have HSS := Lib.hid hS
    have q1 := hS.obox
    clear hS
    gi_wp2
    refine ⟨by simp, .inl ⟨_, _, rfl, run_takeDeferred hK, ?_⟩⟩
    have hS := HSS.out.kept (grownBy_putObj' W D (.deferred none)) (fun q e => by cases e; omega) (fun q e => by cases e; exact ⟨_, hK, rfl⟩)
    subst hy
    rw [runD_end] at hS
    refine ⟨_, results_tmp rfl _ _ _, some ⟨w.heap.size + 1 + 1, 0, none⟩, n, n, rfl, ⟨by rw [parts_len, szs_len, HL.out], Nat.le_refl _, by omega, fun e => (by cases e), fun i z hi => ⟨_, 0, rfl, ?_⟩⟩, hS.aft⟩
    rw [Nat.zero_add]
    exact hS.row i z hi
  case stop =>
    rintro D c pre W _ _ h _
    exact h.elim
end Go.Proofs.Yteknfigpjhngfaa
