/-
  The first later day with a pair (Next), the day of a cycle date (CycleDay), of the program and of the reference. Conditions: the numbers fit an int.
-/
import Derived.Test.YtdeojpmimhagjaaDoorCalDay
namespace Go.Proofs.YtdeojpmimhagjaaDoor
open Go.RowKit
open CalPlain

set_option maxRecDepth 100000 in
set_option maxHeartbeats 1600000 in
theorem Next_any (u v s : Int) (w : World) : Calls Tryd.prog 32 #[.int .i64 u, .int .i64 v, .int .i64 s] w (ValPost w (.tuple #[.int .i64 (nextV u v s).1, .int .i64 (nextV u v s).2])) := by
  have hp := Lib.hid (fun w => isPair_any u v w)
  cases hq : pairB u v
  · rw [nextV_bad (Or.inl hq)]
    rw [hq] at hp
    go_enter Tryd.func32, Tryd.ntmps32
    go_wp2_with fail
    refine (hp.out _).mono ?_
    rintro e w' ⟨rfl, rfl⟩
    go_wp2
    go_ret2
    exact ⟨rfl, Aft.refl _⟩
  · have HQ := Lib.hid hq
    rw [hq] at hp
    clear hq
    by_cases h1 : s < -1
    · rw [nextV_bad (Or.inr h1)]
      go_enter Tryd.func32, Tryd.ntmps32
      go_wp2_with fail
      refine (hp.out _).mono ?_
      rintro e w' ⟨rfl, rfl⟩
      go_wp2
      go_ret2
      exact ⟨rfl, Aft.refl _⟩
    · by_cases h2 : 999999 ≤ s
      · rw [nextV_far HQ.out h1 h2]
        go_enter Tryd.func32, Tryd.ntmps32
        go_wp2_with fail
        refine (hp.out _).mono ?_
        rintro e w' ⟨rfl, rfl⟩
        go_wp2
        go_ret2
        exact ⟨rfl, Aft.refl _⟩
      · obtain ⟨p1, p2, p3, p4⟩ := pair_yes HQ.out
        have hge := nx_ge (u - 1) v (s + 1)
        have HP := Lib.hid (nx_pair (s := s + 1) (show 0 ≤ u - 1 by omega) (show u - 1 < 13 by omega) p3 p4)
        have HF := Lib.hid (fun n => nx_first (s := s + 1) (n := n) (show 0 ≤ u - 1 by omega) (show u - 1 < 13 by omega) p3 p4)
        have HO := Lib.hid (nextV_ok HQ.out h1 h2)
        have HG := Lib.hid (nextV_big HQ.out h1 h2)
        generalize nx (u - 1) v (s + 1) = N at *
        generalize nextV u v s = V at *
        go_enter Tryd.func32, Tryd.ntmps32
        go_wp2_with fail
        refine (hp.out _).mono ?_
        rintro e w' ⟨rfl, rfl⟩
        go_wp2
        go_loopw [22] (fun i wr => ∃ k : Int, i = .int .i64 k ∧ 0 ≤ k ∧ k ≤ 260 ∧ (s + 1 + k ≤ N ∨ 999999 < N) ∧ Aft w wr) (fun i _ => (260 - intOf i).toNat)
        case atStart => exact ⟨0, rfl, by omega, by omega, by omega, Aft.refl _⟩
        case round =>
          obtain ⟨k, rfl, k0, k1, hN, haf⟩ := hrel
          by_cases hlt : k < 260
          · obtain ⟨n, hn⟩ : ∃ n, s + 1 + k = n := ⟨_, rfl⟩
            have HNN := Lib.hid hn
            have hcd := Lib.hid (fun w => CycleDate_any (s + 1 + k) w)
            rw [hn] at hcd
            have hn0 : 0 ≤ n := by omega
            have hns : s + 1 ≤ n := by omega
            clear hn
            by_cases hbig : n ≤ 999999
            · obtain ⟨e0, e1, e2, e3, e4⟩ := cy_in hn0 hbig
              rw [e0, e1, e2, e3, e4] at hcd
              clear e0 e1 e2 e3 e4
              by_cases hm : n = N
              · subst hm
                have hq2 : deq 3 (n / 260) (n % 13 + 1) (n % 20) false 3 (n / 260) u v false = true := deq_iff.2 ⟨rfl, rfl, by have := HP.out.1; omega, HP.out.2, rfl⟩
                have HV := Lib.hid (HO.out (by first | exact hbig | omega))
                have hnn : s + 1 + k = n := HNN.out
                go_wp2_with fail
                refine (hcd.out _).mono ?_
                rintro e w1 ⟨rfl, N1⟩
                have b1 := BoxD.new w1 3 (n / 260) (n % 13 + 1) (n % 20) false
                obtain ⟨c0, c1, c2, c3, c4⟩ := b1.five
                clear b1
                go_wp2
                refine wp_region_held_drew (S := fun w' => Aft (w1.alloc (.cells #[.int .i64 3, .int .i64 (n / 260), .int .i64 (n % 13 + 1), .int .i64 (n % 20), .bool false] 30)) w' ∧ w'.cell? ⟨w1.heap.size, 0, none⟩ = some (.int .i64 3) ∧ w'.cell? ⟨w1.heap.size, 1, none⟩ = some (.int .i64 (n / 260)) ∧ w'.cell? ⟨w1.heap.size, 2, none⟩ = some (.int .i64 (n % 13 + 1)) ∧ w'.cell? ⟨w1.heap.size, 3, none⟩ = some (.int .i64 (n % 20)) ∧ w'.cell? ⟨w1.heap.size, 4, none⟩ = some (.bool false)) (by kernel_rfl) (⟨Below.drew (Aft.refl _), c0, c1, c2, c3, c4⟩) (fun hHeld => ?_)
                refine take_on (i := 0) (v := ?v253) rfl (by kernel_rfl) (by kernel_rfl) (by kernel_rfl) (fun _ _ _ h => h) (by rfl) (by assumption) ?y253 ?_
                case y253 => (intro w hSw; (try dsimp only at hSw); go_simp; (try with_reducible rfl))
                try simp only [Act.put, List.setIfInBounds_toArray, List.set_cons_zero, List.set_cons_succ]
                refine take_on (i := 1) (v := ?v254) rfl (by kernel_rfl) (by kernel_rfl) (by kernel_rfl) (fun _ _ _ h => h) (by rfl) (by assumption) ?y254 ?_
                case y254 => (intro w hSw; (try dsimp only at hSw); go_simp; (try with_reducible rfl))
                try simp only [Act.put, List.setIfInBounds_toArray, List.set_cons_zero, List.set_cons_succ]
                refine take_on (i := 2) (v := ?v255) rfl (by kernel_rfl) (by kernel_rfl) (by kernel_rfl) (fun _ _ _ h => h) (by rfl) (by assumption) ?y255 ?_
                case y255 => (intro w hSw; (try dsimp only at hSw); go_simp; (try with_reducible rfl))
                try simp only [Act.put, List.setIfInBounds_toArray, List.set_cons_zero, List.set_cons_succ]
                refine take_on (i := 3) (v := ?v256) rfl (by kernel_rfl) (by kernel_rfl) (by kernel_rfl) (fun _ _ _ h => h) (by rfl) (by assumption) ?y256 ?_
                case y256 => (intro w hSw; (try dsimp only at hSw); go_simp; (try with_reducible rfl))
                try simp only [Act.put, List.setIfInBounds_toArray, List.set_cons_zero, List.set_cons_succ]
                refine take_on (i := 4) (v := ?v257) rfl (by kernel_rfl) (by kernel_rfl) (by kernel_rfl) (fun _ _ _ h => h) (by rfl) (by assumption) ?y257 ?_
                case y257 => (intro w hSw; (try dsimp only at hSw); go_simp; (try with_reducible rfl))
                try simp only [Act.put, List.setIfInBounds_toArray, List.set_cons_zero, List.set_cons_succ]
                refine take_on (i := 5) (v := ?v258) rfl (by kernel_rfl) (by kernel_rfl) (by kernel_rfl) (fun _ _ _ h => h) (by rfl) (by assumption) ?y258 ?_
                case y258 => (intro w hSw; (try dsimp only at hSw); go_simp; (try with_reducible rfl))
                try simp only [Act.put, List.setIfInBounds_toArray, List.set_cons_zero, List.set_cons_succ]
                refine take_on (i := 6) (v := ?v259) rfl (by kernel_rfl) (by kernel_rfl) (by kernel_rfl) (fun _ _ _ h => h) (by rfl) (by assumption) ?y259 ?_
                case y259 => (intro w hSw; (try dsimp only at hSw); go_simp; (try with_reducible rfl))
                try simp only [Act.put, List.setIfInBounds_toArray, List.set_cons_zero, List.set_cons_succ]
                refine take_on (i := 7) (v := ?v260) rfl (by kernel_rfl) (by kernel_rfl) (by kernel_rfl) (fun _ _ _ h => h) (by rfl) (by assumption) ?y260 ?_
                case y260 => (intro w hSw; (try dsimp only at hSw); go_simp; (try with_reducible rfl))
                try simp only [Act.put, List.setIfInBounds_toArray, List.set_cons_zero, List.set_cons_succ]
                refine one_ready (i := 8) rfl (by kernel_rfl) (by rfl) (fun K hK => ?_)
                go_simp
                go_at_call 42
                refine (cycleDate_any _ _ _ _).mono ?_
                rintro e' w' ⟨rfl, N9⟩
                have hh : (fun w' => Aft (w1.alloc (.cells #[.int .i64 3, .int .i64 (n / 260), .int .i64 (n % 13 + 1), .int .i64 (n % 20), .bool false] 30)) w' ∧ w'.cell? ⟨w1.heap.size, 0, none⟩ = some (.int .i64 3) ∧ w'.cell? ⟨w1.heap.size, 1, none⟩ = some (.int .i64 (n / 260)) ∧ w'.cell? ⟨w1.heap.size, 2, none⟩ = some (.int .i64 (n % 13 + 1)) ∧ w'.cell? ⟨w1.heap.size, 3, none⟩ = some (.int .i64 (n % 20)) ∧ w'.cell? ⟨w1.heap.size, 4, none⟩ = some (.bool false)) w' := ds_aft hHeld (Aft.trans (by first | exact Aft.refl _ | exact Below.drew (Aft.refl _)) N9)
                clear N9
                try go_simp
                refine hK.out _ _ (by first | exact hh | exact ⟨Below.drew hh.1, hh.2⟩ | exact hHeld) (fun hHeld => ?_)
                clear hK K
                try simp only [Act.put, List.setIfInBounds_toArray, List.set_cons_zero, List.set_cons_succ]
                refine take_on (i := 9) (v := ?v262) rfl (by kernel_rfl) (by kernel_rfl) (by kernel_rfl) (fun _ _ _ h => h) (by rfl) (by assumption) ?y262 ?_
                case y262 => (intro w hSw; (try dsimp only at hSw); go_simp; (try with_reducible rfl))
                try simp only [Act.put, List.setIfInBounds_toArray, List.set_cons_zero, List.set_cons_succ]
                refine take_on (i := 10) (v := ?v263) rfl (by kernel_rfl) (by kernel_rfl) (by kernel_rfl) (fun _ _ _ h => h) (by rfl) (by assumption) ?y263 ?_
                case y263 => (intro w hSw; (try dsimp only at hSw); go_simp; (try with_reducible rfl))
                try simp only [Act.put, List.setIfInBounds_toArray, List.set_cons_zero, List.set_cons_succ]
                refine wpAnyH_done (by kernel_rfl) ?_ _
                go_wp2
                go_ret2
                exact ⟨by rw [HV.out]; rfl, (haf.trans N1).trans (((Aft.refl _).alloc _).trans hHeld.1)⟩
              · have hlN : n < N := by have := HNN.out; omega
                have hq2 : deq 3 (n / 260) (n % 13 + 1) (n % 20) false 3 (n / 260) u v false = false := deq_not (fun h => HF.out n hns hlN ⟨by omega, h.2.2.2.1⟩)
                have hnn : s + 1 + k = n := HNN.out
                have hN2 : s + 1 + (k + 1) ≤ N ∨ 999999 < N := by omega
                go_wp2_with fail
                refine (hcd.out _).mono ?_
                rintro e w1 ⟨rfl, N1⟩
                have b1 := BoxD.new w1 3 (n / 260) (n % 13 + 1) (n % 20) false
                obtain ⟨c0, c1, c2, c3, c4⟩ := b1.five
                clear b1
                go_wp2
                refine wp_region_held_drew (S := fun w' => Aft (w1.alloc (.cells #[.int .i64 3, .int .i64 (n / 260), .int .i64 (n % 13 + 1), .int .i64 (n % 20), .bool false] 30)) w' ∧ w'.cell? ⟨w1.heap.size, 0, none⟩ = some (.int .i64 3) ∧ w'.cell? ⟨w1.heap.size, 1, none⟩ = some (.int .i64 (n / 260)) ∧ w'.cell? ⟨w1.heap.size, 2, none⟩ = some (.int .i64 (n % 13 + 1)) ∧ w'.cell? ⟨w1.heap.size, 3, none⟩ = some (.int .i64 (n % 20)) ∧ w'.cell? ⟨w1.heap.size, 4, none⟩ = some (.bool false)) (by kernel_rfl) (⟨Below.drew (Aft.refl _), c0, c1, c2, c3, c4⟩) (fun hHeld => ?_)
                refine take_on (i := 0) (v := ?v264) rfl (by kernel_rfl) (by kernel_rfl) (by kernel_rfl) (fun _ _ _ h => h) (by rfl) (by assumption) ?y264 ?_
                case y264 => (intro w hSw; (try dsimp only at hSw); go_simp; (try with_reducible rfl))
                try simp only [Act.put, List.setIfInBounds_toArray, List.set_cons_zero, List.set_cons_succ]
                refine take_on (i := 1) (v := ?v265) rfl (by kernel_rfl) (by kernel_rfl) (by kernel_rfl) (fun _ _ _ h => h) (by rfl) (by assumption) ?y265 ?_
                case y265 => (intro w hSw; (try dsimp only at hSw); go_simp; (try with_reducible rfl))
                try simp only [Act.put, List.setIfInBounds_toArray, List.set_cons_zero, List.set_cons_succ]
                refine take_on (i := 2) (v := ?v266) rfl (by kernel_rfl) (by kernel_rfl) (by kernel_rfl) (fun _ _ _ h => h) (by rfl) (by assumption) ?y266 ?_
                case y266 => (intro w hSw; (try dsimp only at hSw); go_simp; (try with_reducible rfl))
                try simp only [Act.put, List.setIfInBounds_toArray, List.set_cons_zero, List.set_cons_succ]
                refine take_on (i := 3) (v := ?v267) rfl (by kernel_rfl) (by kernel_rfl) (by kernel_rfl) (fun _ _ _ h => h) (by rfl) (by assumption) ?y267 ?_
                case y267 => (intro w hSw; (try dsimp only at hSw); go_simp; (try with_reducible rfl))
                try simp only [Act.put, List.setIfInBounds_toArray, List.set_cons_zero, List.set_cons_succ]
                refine take_on (i := 4) (v := ?v268) rfl (by kernel_rfl) (by kernel_rfl) (by kernel_rfl) (fun _ _ _ h => h) (by rfl) (by assumption) ?y268 ?_
                case y268 => (intro w hSw; (try dsimp only at hSw); go_simp; (try with_reducible rfl))
                try simp only [Act.put, List.setIfInBounds_toArray, List.set_cons_zero, List.set_cons_succ]
                refine take_on (i := 5) (v := ?v269) rfl (by kernel_rfl) (by kernel_rfl) (by kernel_rfl) (fun _ _ _ h => h) (by rfl) (by assumption) ?y269 ?_
                case y269 => (intro w hSw; (try dsimp only at hSw); go_simp; (try with_reducible rfl))
                try simp only [Act.put, List.setIfInBounds_toArray, List.set_cons_zero, List.set_cons_succ]
                refine take_on (i := 6) (v := ?v270) rfl (by kernel_rfl) (by kernel_rfl) (by kernel_rfl) (fun _ _ _ h => h) (by rfl) (by assumption) ?y270 ?_
                case y270 => (intro w hSw; (try dsimp only at hSw); go_simp; (try with_reducible rfl))
                try simp only [Act.put, List.setIfInBounds_toArray, List.set_cons_zero, List.set_cons_succ]
                refine take_on (i := 7) (v := ?v271) rfl (by kernel_rfl) (by kernel_rfl) (by kernel_rfl) (fun _ _ _ h => h) (by rfl) (by assumption) ?y271 ?_
                case y271 => (intro w hSw; (try dsimp only at hSw); go_simp; (try with_reducible rfl))
                try simp only [Act.put, List.setIfInBounds_toArray, List.set_cons_zero, List.set_cons_succ]
                refine one_ready (i := 8) rfl (by kernel_rfl) (by rfl) (fun K hK => ?_)
                go_simp
                go_at_call 42
                refine (cycleDate_any _ _ _ _).mono ?_
                rintro e' w' ⟨rfl, N9⟩
                have hh : (fun w' => Aft (w1.alloc (.cells #[.int .i64 3, .int .i64 (n / 260), .int .i64 (n % 13 + 1), .int .i64 (n % 20), .bool false] 30)) w' ∧ w'.cell? ⟨w1.heap.size, 0, none⟩ = some (.int .i64 3) ∧ w'.cell? ⟨w1.heap.size, 1, none⟩ = some (.int .i64 (n / 260)) ∧ w'.cell? ⟨w1.heap.size, 2, none⟩ = some (.int .i64 (n % 13 + 1)) ∧ w'.cell? ⟨w1.heap.size, 3, none⟩ = some (.int .i64 (n % 20)) ∧ w'.cell? ⟨w1.heap.size, 4, none⟩ = some (.bool false)) w' := ds_aft hHeld (Aft.trans (by first | exact Aft.refl _ | exact Below.drew (Aft.refl _)) N9)
                clear N9
                try go_simp
                refine hK.out _ _ (by first | exact hh | exact ⟨Below.drew hh.1, hh.2⟩ | exact hHeld) (fun hHeld => ?_)
                clear hK K
                try simp only [Act.put, List.setIfInBounds_toArray, List.set_cons_zero, List.set_cons_succ]
                refine take_on (i := 9) (v := ?v273) rfl (by kernel_rfl) (by kernel_rfl) (by kernel_rfl) (fun _ _ _ h => h) (by rfl) (by assumption) ?y273 ?_
                case y273 => (intro w hSw; (try dsimp only at hSw); go_simp; (try with_reducible rfl))
                try simp only [Act.put, List.setIfInBounds_toArray, List.set_cons_zero, List.set_cons_succ]
                refine take_on (i := 10) (v := ?v274) rfl (by kernel_rfl) (by kernel_rfl) (by kernel_rfl) (fun _ _ _ h => h) (by rfl) (by assumption) ?y274 ?_
                case y274 => (intro w hSw; (try dsimp only at hSw); go_simp; (try with_reducible rfl))
                try simp only [Act.put, List.setIfInBounds_toArray, List.set_cons_zero, List.set_cons_succ]
                refine wpAnyH_done (by kernel_rfl) ?_ _
                go_wp2
                go_roundw
                case rel => exact ⟨k + 1, rfl, by omega, by omega, hN2, (haf.trans N1).trans (((Aft.refl _).alloc _).trans hHeld.1)⟩
                case measure => simp [intOf]; omega
            · obtain ⟨e0, e1, e2, e3⟩ := cy_out (n := n) (by omega)
              rw [e0, e1, e2, e3, ckV_big (by omega)] at hcd
              clear e0 e1 e2 e3
              have hnn : s + 1 + k = n := HNN.out
              have hN2 : s + 1 + (k + 1) ≤ N ∨ 999999 < N := by omega
              go_wp2_with fail
              refine (hcd.out _).mono ?_
              rintro e w1 ⟨rfl, N1⟩
              have b1 := BoxD.new w1 0 0 0 0 false
              obtain ⟨c0, c1, c2, c3, c4⟩ := b1.five
              clear b1
              go_wp2
              refine wp_region_held_drew (S := fun w' => Aft (w1.alloc (.cells #[.int .i64 0, .int .i64 0, .int .i64 0, .int .i64 0, .bool false] 30)) w' ∧ w'.cell? ⟨w1.heap.size, 0, none⟩ = some (.int .i64 0) ∧ w'.cell? ⟨w1.heap.size, 1, none⟩ = some (.int .i64 0) ∧ w'.cell? ⟨w1.heap.size, 2, none⟩ = some (.int .i64 0) ∧ w'.cell? ⟨w1.heap.size, 3, none⟩ = some (.int .i64 0) ∧ w'.cell? ⟨w1.heap.size, 4, none⟩ = some (.bool false)) (by kernel_rfl) (⟨Below.drew (Aft.refl _), c0, c1, c2, c3, c4⟩) (fun hHeld => ?_)
              refine take_on (i := 0) (v := ?v275) rfl (by kernel_rfl) (by kernel_rfl) (by kernel_rfl) (fun _ _ _ h => h) (by rfl) (by assumption) ?y275 ?_
              case y275 => (intro w hSw; (try dsimp only at hSw); go_simp; (try with_reducible rfl))
              try simp only [Act.put, List.setIfInBounds_toArray, List.set_cons_zero, List.set_cons_succ]
              refine take_on (i := 1) (v := ?v276) rfl (by kernel_rfl) (by kernel_rfl) (by kernel_rfl) (fun _ _ _ h => h) (by rfl) (by assumption) ?y276 ?_
              case y276 => (intro w hSw; (try dsimp only at hSw); go_simp; (try with_reducible rfl))
              try simp only [Act.put, List.setIfInBounds_toArray, List.set_cons_zero, List.set_cons_succ]
              refine take_on (i := 2) (v := ?v277) rfl (by kernel_rfl) (by kernel_rfl) (by kernel_rfl) (fun _ _ _ h => h) (by rfl) (by assumption) ?y277 ?_
              case y277 => (intro w hSw; (try dsimp only at hSw); go_simp; (try with_reducible rfl))
              try simp only [Act.put, List.setIfInBounds_toArray, List.set_cons_zero, List.set_cons_succ]
              refine take_off (i := 3) rfl (by kernel_rfl) (by kernel_rfl) (by kernel_rfl) (fun _ _ _ h => h) (by rfl) (by assumption) ?_
              try simp only [Act.put, List.setIfInBounds_toArray, List.set_cons_zero, List.set_cons_succ]
              refine take_off (i := 4) rfl (by kernel_rfl) (by kernel_rfl) (by kernel_rfl) (fun _ _ _ h => h) (by rfl) (by assumption) ?_
              try simp only [Act.put, List.setIfInBounds_toArray, List.set_cons_zero, List.set_cons_succ]
              refine take_off (i := 5) rfl (by kernel_rfl) (by kernel_rfl) (by kernel_rfl) (fun _ _ _ h => h) (by rfl) (by assumption) ?_
              try simp only [Act.put, List.setIfInBounds_toArray, List.set_cons_zero, List.set_cons_succ]
              refine take_off (i := 6) rfl (by kernel_rfl) (by kernel_rfl) (by kernel_rfl) (fun _ _ _ h => h) (by rfl) (by assumption) ?_
              try simp only [Act.put, List.setIfInBounds_toArray, List.set_cons_zero, List.set_cons_succ]
              refine take_off (i := 7) rfl (by kernel_rfl) (by kernel_rfl) (by kernel_rfl) (fun _ _ _ h => h) (by rfl) (by assumption) ?_
              try simp only [Act.put, List.setIfInBounds_toArray, List.set_cons_zero, List.set_cons_succ]
              refine take_off (i := 8) rfl (by kernel_rfl) (by kernel_rfl) (by kernel_rfl) (fun _ _ _ h => h) (by rfl) (by assumption) ?_
              try simp only [Act.put, List.setIfInBounds_toArray, List.set_cons_zero, List.set_cons_succ]
              refine take_off (i := 9) rfl (by kernel_rfl) (by kernel_rfl) (by kernel_rfl) (fun _ _ _ h => h) (by rfl) (by assumption) ?_
              try simp only [Act.put, List.setIfInBounds_toArray, List.set_cons_zero, List.set_cons_succ]
              refine take_on (i := 10) (v := ?v285) rfl (by kernel_rfl) (by kernel_rfl) (by kernel_rfl) (fun _ _ _ h => h) (by rfl) (by assumption) ?y285 ?_
              case y285 => (intro w hSw; (try dsimp only at hSw); go_simp; (try with_reducible rfl))
              try simp only [Act.put, List.setIfInBounds_toArray, List.set_cons_zero, List.set_cons_succ]
              refine wpAnyH_done (by kernel_rfl) ?_ _
              go_wp2
              go_roundw
              case rel => exact ⟨k + 1, rfl, by omega, by omega, hN2, (haf.trans N1).trans (((Aft.refl _).alloc _).trans hHeld.1)⟩
              case measure => simp [intOf]; omega
          · have HV := Lib.hid (HG.out (by omega))
            go_wp2
            go_ret2
            exact ⟨by rw [HV.out]; rfl, haf⟩

theorem refNext_any (u v s : Int) (w : World) : Calls Tryd.prog 33 #[.int .i64 u, .int .i64 v, .int .i64 s] w (SamePost w (.tuple #[.int .i64 (nextV u v s).1, .int .i64 (nextV u v s).2])) := by
  by_cases hq : pairB u v = true
  · obtain ⟨p1, p2, p3, p4⟩ := pair_yes hq
    have HQ := Lib.hid hq
    clear hq
    by_cases h1 : s < -1
    · rw [nextV_bad (Or.inr h1)]
      go_enter Tryd.func33, Tryd.ntmps33
      go_wp2
      go_ret2
      exact ⟨rfl, rfl⟩
    · by_cases h2 : 999999 ≤ s
      · rw [nextV_far HQ.out h1 h2]
        go_enter Tryd.func33, Tryd.ntmps33
        go_wp2
        go_ret2
        exact ⟨rfl, rfl⟩
      · have hge := nx_ge (u - 1) v (s + 1)
        have HP := Lib.hid (nx_pair (s := s + 1) (show 0 ≤ u - 1 by omega) (show u - 1 < 13 by omega) p3 p4)
        have HF := Lib.hid (fun n => nx_first (s := s + 1) (n := n) (show 0 ≤ u - 1 by omega) (show u - 1 < 13 by omega) p3 p4)
        have HO := Lib.hid (nextV_ok HQ.out h1 h2)
        have HG := Lib.hid (nextV_big HQ.out h1 h2)
        generalize nx (u - 1) v (s + 1) = N at *
        generalize nextV u v s = V at *
        go_enter Tryd.func33, Tryd.ntmps33
        go_wp2
        go_loop [8] (fun i => ∃ n : Int, i = .int .i64 n ∧ s + 1 ≤ n ∧ n ≤ N) (fun i => (N - intOf i).toNat)
        case atStart => exact ⟨s + 1, rfl, by omega, by omega⟩
        case round =>
          obtain ⟨n, rfl, n0, n1⟩ := hrel
          by_cases hm : n = N
          · subst hm
            obtain ⟨e1, e2⟩ := HP.out
            have b1 : (n % 13 != u - 1) = false := by rw [e1]; simp
            have b2 : (n % 20 != v) = false := by rw [e2]; simp
            clear e1 e2
            by_cases hbig : n ≤ 999999
            · have HV := Lib.hid (HO.out (by first | exact hbig | omega))
              go_wp2
              go_ret2
              exact ⟨by rw [HV.out]; rfl, rfl⟩
            · have HV := Lib.hid (HG.out (by first | exact hbig | omega))
              go_wp2
              go_ret2
              exact ⟨by rw [HV.out]; rfl, rfl⟩
          · have hf := HF.out n n0 (by omega)
            by_cases g1 : n % 13 = u - 1
            · have b1 : (n % 13 != u - 1) = false := by rw [g1]; simp
              have b2 : (n % 20 != v) = true := by simp; exact fun h => hf ⟨g1, h⟩
              clear hf g1
              go_wp2
              go_round
              case rel => exact ⟨n + 1, rfl, by omega, by omega⟩
              case measure => simp [intOf]; omega
            · have b1 : (n % 13 != u - 1) = true := by simp [g1]
              clear hf g1
              go_wp2
              go_round
              case rel => exact ⟨n + 1, rfl, by omega, by omega⟩
              case measure => simp [intOf]; omega
  · have hq' : pairB u v = false := by simpa using hq
    rw [nextV_bad (Or.inl hq')]
    have hn := pair_no hq'
    clear hq hq'
    by_cases g1 : u < 1
    · go_enter Tryd.func33, Tryd.ntmps33
      go_wp2
      go_ret2
      exact ⟨rfl, rfl⟩
    · by_cases g2 : 13 < u
      · go_enter Tryd.func33, Tryd.ntmps33
        go_wp2
        go_ret2
        exact ⟨rfl, rfl⟩
      · by_cases g3 : v < 0
        · go_enter Tryd.func33, Tryd.ntmps33
          go_wp2
          go_ret2
          exact ⟨rfl, rfl⟩
        · have g4 : 19 < v := by omega
          clear hn
          go_enter Tryd.func33, Tryd.ntmps33
          go_wp2
          go_ret2
          exact ⟨rfl, rfl⟩

set_option maxRecDepth 100000 in
set_option maxHeartbeats 1600000 in
theorem CycleDay_any (c y m d : Int) (l : Bool) (w : World) : Calls Tryd.prog 30 #[(.agg #[.int .i64 c, .int .i64 y, .int .i64 m, .int .i64 d, .bool l])] w (ValPost w (.tuple #[.int .i64 (cdV c y m d l).1, .int .i64 (cdV c y m d l).2])) := by
  by_cases hcl : c = 3 ∧ l = false
  · obtain ⟨rfl, rfl⟩ := hcl
    have A0 := (Aft.refl w).alloc (.cells #[.int .i64 3, .int .i64 y, .int .i64 m, .int .i64 d, .bool false] 30)
    have b0 := BoxD.new w 3 y m d false
    obtain ⟨c0, c1, c2, c3, c4⟩ := b0.five
    clear b0
    have hq := deq_refl 3 y m d false
    by_cases hy : y < 0
    · have hgd := decide_eq_true hy
      rw [cdV_bad (fun h => by have := h.2.2.1; omega)]
      go_enter Tryd.func30, Tryd.ntmps30
      go_wp2
      refine wp_region_held_drew (S := fun w' => Aft (w.alloc (.cells #[.int .i64 3, .int .i64 y, .int .i64 m, .int .i64 d, .bool false] 30)) w' ∧ w'.cell? ⟨w.heap.size, 0, none⟩ = some (.int .i64 3) ∧ w'.cell? ⟨w.heap.size, 1, none⟩ = some (.int .i64 y) ∧ w'.cell? ⟨w.heap.size, 2, none⟩ = some (.int .i64 m) ∧ w'.cell? ⟨w.heap.size, 3, none⟩ = some (.int .i64 d) ∧ w'.cell? ⟨w.heap.size, 4, none⟩ = some (.bool false)) (by kernel_rfl) (⟨Below.drew (Aft.refl _), c0, c1, c2, c3, c4⟩) (fun hHeld => ?_)
      refine take_on (i := 0) (v := ?v286) rfl (by kernel_rfl) (by kernel_rfl) (by kernel_rfl) (fun _ _ _ h => h) (by rfl) (by assumption) ?y286 ?_
      case y286 => (intro w hSw; (try dsimp only at hSw); go_simp; (try with_reducible rfl))
      try simp only [Act.put, List.setIfInBounds_toArray, List.set_cons_zero, List.set_cons_succ]
      refine take_on (i := 1) (v := ?v287) rfl (by kernel_rfl) (by kernel_rfl) (by kernel_rfl) (fun _ _ _ h => h) (by rfl) (by assumption) ?y287 ?_
      case y287 => (intro w hSw; (try dsimp only at hSw); go_simp; (try with_reducible rfl))
      try simp only [Act.put, List.setIfInBounds_toArray, List.set_cons_zero, List.set_cons_succ]
      refine take_on (i := 2) (v := ?v288) rfl (by kernel_rfl) (by kernel_rfl) (by kernel_rfl) (fun _ _ _ h => h) (by rfl) (by assumption) ?y288 ?_
      case y288 => (intro w hSw; (try dsimp only at hSw); go_simp; (try with_reducible rfl))
      try simp only [Act.put, List.setIfInBounds_toArray, List.set_cons_zero, List.set_cons_succ]
      refine take_on (i := 3) (v := ?v289) rfl (by kernel_rfl) (by kernel_rfl) (by kernel_rfl) (fun _ _ _ h => h) (by rfl) (by assumption) ?y289 ?_
      case y289 => (intro w hSw; (try dsimp only at hSw); go_simp; (try with_reducible rfl))
      try simp only [Act.put, List.setIfInBounds_toArray, List.set_cons_zero, List.set_cons_succ]
      refine take_on (i := 4) (v := ?v290) rfl (by kernel_rfl) (by kernel_rfl) (by kernel_rfl) (fun _ _ _ h => h) (by rfl) (by assumption) ?y290 ?_
      case y290 => (intro w hSw; (try dsimp only at hSw); go_simp; (try with_reducible rfl))
      try simp only [Act.put, List.setIfInBounds_toArray, List.set_cons_zero, List.set_cons_succ]
      refine take_on (i := 5) (v := ?v291) rfl (by kernel_rfl) (by kernel_rfl) (by kernel_rfl) (fun _ _ _ h => h) (by rfl) (by assumption) ?y291 ?_
      case y291 => (intro w hSw; (try dsimp only at hSw); go_simp; (try with_reducible rfl))
      try simp only [Act.put, List.setIfInBounds_toArray, List.set_cons_zero, List.set_cons_succ]
      refine take_on (i := 6) (v := ?v292) rfl (by kernel_rfl) (by kernel_rfl) (by kernel_rfl) (fun _ _ _ h => h) (by rfl) (by assumption) ?y292 ?_
      case y292 => (intro w hSw; (try dsimp only at hSw); go_simp; (try with_reducible rfl))
      try simp only [Act.put, List.setIfInBounds_toArray, List.set_cons_zero, List.set_cons_succ]
      refine one_ready (i := 7) rfl (by kernel_rfl) (by rfl) (fun K hK => ?_)
      go_simp
      go_at_call 42
      refine (cycleDate_any _ _ _ _).mono ?_
      rintro e' w' ⟨rfl, N9⟩
      have hh : (fun w' => Aft (w.alloc (.cells #[.int .i64 3, .int .i64 y, .int .i64 m, .int .i64 d, .bool false] 30)) w' ∧ w'.cell? ⟨w.heap.size, 0, none⟩ = some (.int .i64 3) ∧ w'.cell? ⟨w.heap.size, 1, none⟩ = some (.int .i64 y) ∧ w'.cell? ⟨w.heap.size, 2, none⟩ = some (.int .i64 m) ∧ w'.cell? ⟨w.heap.size, 3, none⟩ = some (.int .i64 d) ∧ w'.cell? ⟨w.heap.size, 4, none⟩ = some (.bool false)) w' := ds_aft hHeld (Aft.trans (by first | exact Aft.refl _ | exact Below.drew (Aft.refl _)) N9)
      clear N9
      try go_simp
      refine hK.out _ _ (by first | exact hh | exact ⟨Below.drew hh.1, hh.2⟩ | exact hHeld) (fun hHeld => ?_)
      clear hK K
      try simp only [Act.put, List.setIfInBounds_toArray, List.set_cons_zero, List.set_cons_succ]
      refine take_on (i := 8) (v := ?v294) rfl (by kernel_rfl) (by kernel_rfl) (by kernel_rfl) (fun _ _ _ h => h) (by rfl) (by assumption) ?y294 ?_
      case y294 => (intro w hSw; (try dsimp only at hSw); go_simp; (try with_reducible rfl))
      try simp only [Act.put, List.setIfInBounds_toArray, List.set_cons_zero, List.set_cons_succ]
      refine take_on (i := 9) (v := ?v295) rfl (by kernel_rfl) (by kernel_rfl) (by kernel_rfl) (fun _ _ _ h => h) (by rfl) (by assumption) ?y295 ?_
      case y295 => (intro w hSw; (try dsimp only at hSw); go_simp; (try with_reducible rfl))
      try simp only [Act.put, List.setIfInBounds_toArray, List.set_cons_zero, List.set_cons_succ]
      refine take_on (i := 10) (v := ?v296) rfl (by kernel_rfl) (by kernel_rfl) (by kernel_rfl) (fun _ _ _ h => h) (by rfl) (by assumption) ?y296 ?_
      case y296 => (intro w hSw; (try dsimp only at hSw); go_simp; (try with_reducible rfl))
      try simp only [Act.put, List.setIfInBounds_toArray, List.set_cons_zero, List.set_cons_succ]
      refine take_on (i := 11) (v := ?v297) rfl (by kernel_rfl) (by kernel_rfl) (by kernel_rfl) (fun _ _ _ h => h) (by rfl) (by assumption) ?y297 ?_
      case y297 => (intro w hSw; (try dsimp only at hSw); go_simp; (try with_reducible rfl))
      try simp only [Act.put, List.setIfInBounds_toArray, List.set_cons_zero, List.set_cons_succ]
      refine take_on (i := 12) (v := ?v298) rfl (by kernel_rfl) (by kernel_rfl) (by kernel_rfl) (fun _ _ _ h => h) (by rfl) (by assumption) ?y298 ?_
      case y298 => (intro w hSw; (try dsimp only at hSw); go_simp; (try with_reducible rfl))
      try simp only [Act.put, List.setIfInBounds_toArray, List.set_cons_zero, List.set_cons_succ]
      refine take_on (i := 13) (v := ?v299) rfl (by kernel_rfl) (by kernel_rfl) (by kernel_rfl) (fun _ _ _ h => h) (by rfl) (by assumption) ?y299 ?_
      case y299 => (intro w hSw; (try dsimp only at hSw); go_simp; (try with_reducible rfl))
      try simp only [Act.put, List.setIfInBounds_toArray, List.set_cons_zero, List.set_cons_succ]
      refine take_on (i := 14) (v := ?v300) rfl (by kernel_rfl) (by kernel_rfl) (by kernel_rfl) (fun _ _ _ h => h) (by rfl) (by assumption) ?y300 ?_
      case y300 => (intro w hSw; (try dsimp only at hSw); go_simp; (try with_reducible rfl))
      try simp only [Act.put, List.setIfInBounds_toArray, List.set_cons_zero, List.set_cons_succ]
      refine take_off (i := 15) rfl (by kernel_rfl) (by kernel_rfl) (by kernel_rfl) (fun _ _ _ h => h) (by rfl) (by assumption) ?_
      try simp only [Act.put, List.setIfInBounds_toArray, List.set_cons_zero, List.set_cons_succ]
      refine take_off (i := 16) rfl (by kernel_rfl) (by kernel_rfl) (by kernel_rfl) (fun _ _ _ h => h) (by rfl) (by assumption) ?_
      try simp only [Act.put, List.setIfInBounds_toArray, List.set_cons_zero, List.set_cons_succ]
      refine take_off (i := 17) rfl (by kernel_rfl) (by kernel_rfl) (by kernel_rfl) (fun _ _ _ h => h) (by rfl) (by assumption) ?_
      try simp only [Act.put, List.setIfInBounds_toArray, List.set_cons_zero, List.set_cons_succ]
      refine take_off (i := 18) rfl (by kernel_rfl) (by kernel_rfl) (by kernel_rfl) (fun _ _ _ h => h) (by rfl) (by assumption) ?_
      try simp only [Act.put, List.setIfInBounds_toArray, List.set_cons_zero, List.set_cons_succ]
      refine take_off (i := 19) rfl (by kernel_rfl) (by kernel_rfl) (by kernel_rfl) (fun _ _ _ h => h) (by rfl) (by assumption) ?_
      try simp only [Act.put, List.setIfInBounds_toArray, List.set_cons_zero, List.set_cons_succ]
      refine take_off (i := 20) rfl (by kernel_rfl) (by kernel_rfl) (by kernel_rfl) (fun _ _ _ h => h) (by rfl) (by assumption) ?_
      try simp only [Act.put, List.setIfInBounds_toArray, List.set_cons_zero, List.set_cons_succ]
      refine take_on (i := 21) (v := ?v307) rfl (by kernel_rfl) (by kernel_rfl) (by kernel_rfl) (fun _ _ _ h => h) (by rfl) (by assumption) ?y307 ?_
      case y307 => (intro w hSw; (try dsimp only at hSw); go_simp; (try with_reducible rfl))
      try simp only [Act.put, List.setIfInBounds_toArray, List.set_cons_zero, List.set_cons_succ]
      refine wpAnyH_done (by kernel_rfl) ?_ _
      go_wp2
      go_ret2
      exact ⟨rfl, A0.trans hHeld.1⟩
    · have hgd := decide_eq_false hy
      have hp := Lib.hid (fun w => isPair_any m d w)
      cases hpq : pairB m d
      · rw [cdV_bad (fun h => by rw [hpq] at h; cases h.2.2.2)]
        rw [hpq] at hp
        clear hpq
        go_enter Tryd.func30, Tryd.ntmps30
        go_wp2
        refine wp_region_held_drew (S := fun w' => Aft (w.alloc (.cells #[.int .i64 3, .int .i64 y, .int .i64 m, .int .i64 d, .bool false] 30)) w' ∧ w'.cell? ⟨w.heap.size, 0, none⟩ = some (.int .i64 3) ∧ w'.cell? ⟨w.heap.size, 1, none⟩ = some (.int .i64 y) ∧ w'.cell? ⟨w.heap.size, 2, none⟩ = some (.int .i64 m) ∧ w'.cell? ⟨w.heap.size, 3, none⟩ = some (.int .i64 d) ∧ w'.cell? ⟨w.heap.size, 4, none⟩ = some (.bool false)) (by kernel_rfl) (⟨Below.drew (Aft.refl _), c0, c1, c2, c3, c4⟩) (fun hHeld => ?_)
        refine take_on (i := 0) (v := ?v308) rfl (by kernel_rfl) (by kernel_rfl) (by kernel_rfl) (fun _ _ _ h => h) (by rfl) (by assumption) ?y308 ?_
        case y308 => (intro w hSw; (try dsimp only at hSw); go_simp; (try with_reducible rfl))
        try simp only [Act.put, List.setIfInBounds_toArray, List.set_cons_zero, List.set_cons_succ]
        refine take_on (i := 1) (v := ?v309) rfl (by kernel_rfl) (by kernel_rfl) (by kernel_rfl) (fun _ _ _ h => h) (by rfl) (by assumption) ?y309 ?_
        case y309 => (intro w hSw; (try dsimp only at hSw); go_simp; (try with_reducible rfl))
        try simp only [Act.put, List.setIfInBounds_toArray, List.set_cons_zero, List.set_cons_succ]
        refine take_on (i := 2) (v := ?v310) rfl (by kernel_rfl) (by kernel_rfl) (by kernel_rfl) (fun _ _ _ h => h) (by rfl) (by assumption) ?y310 ?_
        case y310 => (intro w hSw; (try dsimp only at hSw); go_simp; (try with_reducible rfl))
        try simp only [Act.put, List.setIfInBounds_toArray, List.set_cons_zero, List.set_cons_succ]
        refine take_on (i := 3) (v := ?v311) rfl (by kernel_rfl) (by kernel_rfl) (by kernel_rfl) (fun _ _ _ h => h) (by rfl) (by assumption) ?y311 ?_
        case y311 => (intro w hSw; (try dsimp only at hSw); go_simp; (try with_reducible rfl))
        try simp only [Act.put, List.setIfInBounds_toArray, List.set_cons_zero, List.set_cons_succ]
        refine take_on (i := 4) (v := ?v312) rfl (by kernel_rfl) (by kernel_rfl) (by kernel_rfl) (fun _ _ _ h => h) (by rfl) (by assumption) ?y312 ?_
        case y312 => (intro w hSw; (try dsimp only at hSw); go_simp; (try with_reducible rfl))
        try simp only [Act.put, List.setIfInBounds_toArray, List.set_cons_zero, List.set_cons_succ]
        refine take_on (i := 5) (v := ?v313) rfl (by kernel_rfl) (by kernel_rfl) (by kernel_rfl) (fun _ _ _ h => h) (by rfl) (by assumption) ?y313 ?_
        case y313 => (intro w hSw; (try dsimp only at hSw); go_simp; (try with_reducible rfl))
        try simp only [Act.put, List.setIfInBounds_toArray, List.set_cons_zero, List.set_cons_succ]
        refine take_on (i := 6) (v := ?v314) rfl (by kernel_rfl) (by kernel_rfl) (by kernel_rfl) (fun _ _ _ h => h) (by rfl) (by assumption) ?y314 ?_
        case y314 => (intro w hSw; (try dsimp only at hSw); go_simp; (try with_reducible rfl))
        try simp only [Act.put, List.setIfInBounds_toArray, List.set_cons_zero, List.set_cons_succ]
        refine one_ready (i := 7) rfl (by kernel_rfl) (by rfl) (fun K hK => ?_)
        go_simp
        go_at_call 42
        refine (cycleDate_any _ _ _ _).mono ?_
        rintro e' w' ⟨rfl, N9⟩
        have hh : (fun w' => Aft (w.alloc (.cells #[.int .i64 3, .int .i64 y, .int .i64 m, .int .i64 d, .bool false] 30)) w' ∧ w'.cell? ⟨w.heap.size, 0, none⟩ = some (.int .i64 3) ∧ w'.cell? ⟨w.heap.size, 1, none⟩ = some (.int .i64 y) ∧ w'.cell? ⟨w.heap.size, 2, none⟩ = some (.int .i64 m) ∧ w'.cell? ⟨w.heap.size, 3, none⟩ = some (.int .i64 d) ∧ w'.cell? ⟨w.heap.size, 4, none⟩ = some (.bool false)) w' := ds_aft hHeld (Aft.trans (by first | exact Aft.refl _ | exact Below.drew (Aft.refl _)) N9)
        clear N9
        try go_simp
        refine hK.out _ _ (by first | exact hh | exact ⟨Below.drew hh.1, hh.2⟩ | exact hHeld) (fun hHeld => ?_)
        clear hK K
        try simp only [Act.put, List.setIfInBounds_toArray, List.set_cons_zero, List.set_cons_succ]
        refine take_on (i := 8) (v := ?v316) rfl (by kernel_rfl) (by kernel_rfl) (by kernel_rfl) (fun _ _ _ h => h) (by rfl) (by assumption) ?y316 ?_
        case y316 => (intro w hSw; (try dsimp only at hSw); go_simp; (try with_reducible rfl))
        try simp only [Act.put, List.setIfInBounds_toArray, List.set_cons_zero, List.set_cons_succ]
        refine take_on (i := 9) (v := ?v317) rfl (by kernel_rfl) (by kernel_rfl) (by kernel_rfl) (fun _ _ _ h => h) (by rfl) (by assumption) ?y317 ?_
        case y317 => (intro w hSw; (try dsimp only at hSw); go_simp; (try with_reducible rfl))
        try simp only [Act.put, List.setIfInBounds_toArray, List.set_cons_zero, List.set_cons_succ]
        refine take_on (i := 10) (v := ?v318) rfl (by kernel_rfl) (by kernel_rfl) (by kernel_rfl) (fun _ _ _ h => h) (by rfl) (by assumption) ?y318 ?_
        case y318 => (intro w hSw; (try dsimp only at hSw); go_simp; (try with_reducible rfl))
        try simp only [Act.put, List.setIfInBounds_toArray, List.set_cons_zero, List.set_cons_succ]
        refine take_on (i := 11) (v := ?v319) rfl (by kernel_rfl) (by kernel_rfl) (by kernel_rfl) (fun _ _ _ h => h) (by rfl) (by assumption) ?y319 ?_
        case y319 => (intro w hSw; (try dsimp only at hSw); go_simp; (try with_reducible rfl))
        try simp only [Act.put, List.setIfInBounds_toArray, List.set_cons_zero, List.set_cons_succ]
        refine take_on (i := 12) (v := ?v320) rfl (by kernel_rfl) (by kernel_rfl) (by kernel_rfl) (fun _ _ _ h => h) (by rfl) (by assumption) ?y320 ?_
        case y320 => (intro w hSw; (try dsimp only at hSw); go_simp; (try with_reducible rfl))
        try simp only [Act.put, List.setIfInBounds_toArray, List.set_cons_zero, List.set_cons_succ]
        refine take_on (i := 13) (v := ?v321) rfl (by kernel_rfl) (by kernel_rfl) (by kernel_rfl) (fun _ _ _ h => h) (by rfl) (by assumption) ?y321 ?_
        case y321 => (intro w hSw; (try dsimp only at hSw); go_simp; (try with_reducible rfl))
        try simp only [Act.put, List.setIfInBounds_toArray, List.set_cons_zero, List.set_cons_succ]
        refine take_on (i := 14) (v := ?v322) rfl (by kernel_rfl) (by kernel_rfl) (by kernel_rfl) (fun _ _ _ h => h) (by rfl) (by assumption) ?y322 ?_
        case y322 => (intro w hSw; (try dsimp only at hSw); go_simp; (try with_reducible rfl))
        try simp only [Act.put, List.setIfInBounds_toArray, List.set_cons_zero, List.set_cons_succ]
        refine take_on (i := 15) (v := ?v323) rfl (by kernel_rfl) (by kernel_rfl) (by kernel_rfl) (fun _ _ _ h => h) (by rfl) (by assumption) ?y323 ?_
        case y323 => (intro w hSw; (try dsimp only at hSw); go_simp; (try with_reducible rfl))
        try simp only [Act.put, List.setIfInBounds_toArray, List.set_cons_zero, List.set_cons_succ]
        refine take_on (i := 16) (v := ?v324) rfl (by kernel_rfl) (by kernel_rfl) (by kernel_rfl) (fun _ _ _ h => h) (by rfl) (by assumption) ?y324 ?_
        case y324 => (intro w hSw; (try dsimp only at hSw); go_simp; (try with_reducible rfl))
        try simp only [Act.put, List.setIfInBounds_toArray, List.set_cons_zero, List.set_cons_succ]
        refine take_on (i := 17) (v := ?v325) rfl (by kernel_rfl) (by kernel_rfl) (by kernel_rfl) (fun _ _ _ h => h) (by rfl) (by assumption) ?y325 ?_
        case y325 => (intro w hSw; (try dsimp only at hSw); go_simp; (try with_reducible rfl))
        try simp only [Act.put, List.setIfInBounds_toArray, List.set_cons_zero, List.set_cons_succ]
        refine take_on (i := 18) (v := ?v326) rfl (by kernel_rfl) (by kernel_rfl) (by kernel_rfl) (fun _ _ _ h => h) (by rfl) (by assumption) ?y326 ?_
        case y326 => (intro w hSw; (try dsimp only at hSw); go_simp; (try with_reducible rfl))
        try simp only [Act.put, List.setIfInBounds_toArray, List.set_cons_zero, List.set_cons_succ]
        refine one_ready (i := 19) rfl (by kernel_rfl) (by rfl) (fun K hK => ?_)
        go_simp
        go_at_call 43
        refine (hp.out _).mono ?_
        rintro e' w' ⟨rfl, rfl⟩
        have hh := hHeld
        try go_simp
        refine hK.out _ _ (by first | exact hh | exact ⟨Below.drew hh.1, hh.2⟩ | exact hHeld) (fun hHeld => ?_)
        clear hK K
        try simp only [Act.put, List.setIfInBounds_toArray, List.set_cons_zero, List.set_cons_succ]
        refine take_on (i := 20) (v := ?v328) rfl (by kernel_rfl) (by kernel_rfl) (by kernel_rfl) (fun _ _ _ h => h) (by rfl) (by assumption) ?y328 ?_
        case y328 => (intro w hSw; (try dsimp only at hSw); go_simp; (try with_reducible rfl))
        try simp only [Act.put, List.setIfInBounds_toArray, List.set_cons_zero, List.set_cons_succ]
        refine take_on (i := 21) (v := ?v329) rfl (by kernel_rfl) (by kernel_rfl) (by kernel_rfl) (fun _ _ _ h => h) (by rfl) (by assumption) ?y329 ?_
        case y329 => (intro w hSw; (try dsimp only at hSw); go_simp; (try with_reducible rfl))
        try simp only [Act.put, List.setIfInBounds_toArray, List.set_cons_zero, List.set_cons_succ]
        refine wpAnyH_done (by kernel_rfl) ?_ _
        go_wp2
        go_ret2
        exact ⟨rfl, A0.trans hHeld.1⟩
      · by_cases hf : 3846 < y
        · rw [cdV_far (by omega) hpq hf]
          rw [hpq] at hp
          clear hpq
          go_enter Tryd.func30, Tryd.ntmps30
          go_wp2
          refine wp_region_held_drew (S := fun w' => Aft (w.alloc (.cells #[.int .i64 3, .int .i64 y, .int .i64 m, .int .i64 d, .bool false] 30)) w' ∧ w'.cell? ⟨w.heap.size, 0, none⟩ = some (.int .i64 3) ∧ w'.cell? ⟨w.heap.size, 1, none⟩ = some (.int .i64 y) ∧ w'.cell? ⟨w.heap.size, 2, none⟩ = some (.int .i64 m) ∧ w'.cell? ⟨w.heap.size, 3, none⟩ = some (.int .i64 d) ∧ w'.cell? ⟨w.heap.size, 4, none⟩ = some (.bool false)) (by kernel_rfl) (⟨Below.drew (Aft.refl _), c0, c1, c2, c3, c4⟩) (fun hHeld => ?_)
          refine take_on (i := 0) (v := ?v330) rfl (by kernel_rfl) (by kernel_rfl) (by kernel_rfl) (fun _ _ _ h => h) (by rfl) (by assumption) ?y330 ?_
          case y330 => (intro w hSw; (try dsimp only at hSw); go_simp; (try with_reducible rfl))
          try simp only [Act.put, List.setIfInBounds_toArray, List.set_cons_zero, List.set_cons_succ]
          refine take_on (i := 1) (v := ?v331) rfl (by kernel_rfl) (by kernel_rfl) (by kernel_rfl) (fun _ _ _ h => h) (by rfl) (by assumption) ?y331 ?_
          case y331 => (intro w hSw; (try dsimp only at hSw); go_simp; (try with_reducible rfl))
          try simp only [Act.put, List.setIfInBounds_toArray, List.set_cons_zero, List.set_cons_succ]
          refine take_on (i := 2) (v := ?v332) rfl (by kernel_rfl) (by kernel_rfl) (by kernel_rfl) (fun _ _ _ h => h) (by rfl) (by assumption) ?y332 ?_
          case y332 => (intro w hSw; (try dsimp only at hSw); go_simp; (try with_reducible rfl))
          try simp only [Act.put, List.setIfInBounds_toArray, List.set_cons_zero, List.set_cons_succ]
          refine take_on (i := 3) (v := ?v333) rfl (by kernel_rfl) (by kernel_rfl) (by kernel_rfl) (fun _ _ _ h => h) (by rfl) (by assumption) ?y333 ?_
          case y333 => (intro w hSw; (try dsimp only at hSw); go_simp; (try with_reducible rfl))
          try simp only [Act.put, List.setIfInBounds_toArray, List.set_cons_zero, List.set_cons_succ]
          refine take_on (i := 4) (v := ?v334) rfl (by kernel_rfl) (by kernel_rfl) (by kernel_rfl) (fun _ _ _ h => h) (by rfl) (by assumption) ?y334 ?_
          case y334 => (intro w hSw; (try dsimp only at hSw); go_simp; (try with_reducible rfl))
          try simp only [Act.put, List.setIfInBounds_toArray, List.set_cons_zero, List.set_cons_succ]
          refine take_on (i := 5) (v := ?v335) rfl (by kernel_rfl) (by kernel_rfl) (by kernel_rfl) (fun _ _ _ h => h) (by rfl) (by assumption) ?y335 ?_
          case y335 => (intro w hSw; (try dsimp only at hSw); go_simp; (try with_reducible rfl))
          try simp only [Act.put, List.setIfInBounds_toArray, List.set_cons_zero, List.set_cons_succ]
          refine take_on (i := 6) (v := ?v336) rfl (by kernel_rfl) (by kernel_rfl) (by kernel_rfl) (fun _ _ _ h => h) (by rfl) (by assumption) ?y336 ?_
          case y336 => (intro w hSw; (try dsimp only at hSw); go_simp; (try with_reducible rfl))
          try simp only [Act.put, List.setIfInBounds_toArray, List.set_cons_zero, List.set_cons_succ]
          refine one_ready (i := 7) rfl (by kernel_rfl) (by rfl) (fun K hK => ?_)
          go_simp
          go_at_call 42
          refine (cycleDate_any _ _ _ _).mono ?_
          rintro e' w' ⟨rfl, N9⟩
          have hh : (fun w' => Aft (w.alloc (.cells #[.int .i64 3, .int .i64 y, .int .i64 m, .int .i64 d, .bool false] 30)) w' ∧ w'.cell? ⟨w.heap.size, 0, none⟩ = some (.int .i64 3) ∧ w'.cell? ⟨w.heap.size, 1, none⟩ = some (.int .i64 y) ∧ w'.cell? ⟨w.heap.size, 2, none⟩ = some (.int .i64 m) ∧ w'.cell? ⟨w.heap.size, 3, none⟩ = some (.int .i64 d) ∧ w'.cell? ⟨w.heap.size, 4, none⟩ = some (.bool false)) w' := ds_aft hHeld (Aft.trans (by first | exact Aft.refl _ | exact Below.drew (Aft.refl _)) N9)
          clear N9
          try go_simp
          refine hK.out _ _ (by first | exact hh | exact ⟨Below.drew hh.1, hh.2⟩ | exact hHeld) (fun hHeld => ?_)
          clear hK K
          try simp only [Act.put, List.setIfInBounds_toArray, List.set_cons_zero, List.set_cons_succ]
          refine take_on (i := 8) (v := ?v338) rfl (by kernel_rfl) (by kernel_rfl) (by kernel_rfl) (fun _ _ _ h => h) (by rfl) (by assumption) ?y338 ?_
          case y338 => (intro w hSw; (try dsimp only at hSw); go_simp; (try with_reducible rfl))
          try simp only [Act.put, List.setIfInBounds_toArray, List.set_cons_zero, List.set_cons_succ]
          refine take_on (i := 9) (v := ?v339) rfl (by kernel_rfl) (by kernel_rfl) (by kernel_rfl) (fun _ _ _ h => h) (by rfl) (by assumption) ?y339 ?_
          case y339 => (intro w hSw; (try dsimp only at hSw); go_simp; (try with_reducible rfl))
          try simp only [Act.put, List.setIfInBounds_toArray, List.set_cons_zero, List.set_cons_succ]
          refine take_on (i := 10) (v := ?v340) rfl (by kernel_rfl) (by kernel_rfl) (by kernel_rfl) (fun _ _ _ h => h) (by rfl) (by assumption) ?y340 ?_
          case y340 => (intro w hSw; (try dsimp only at hSw); go_simp; (try with_reducible rfl))
          try simp only [Act.put, List.setIfInBounds_toArray, List.set_cons_zero, List.set_cons_succ]
          refine take_on (i := 11) (v := ?v341) rfl (by kernel_rfl) (by kernel_rfl) (by kernel_rfl) (fun _ _ _ h => h) (by rfl) (by assumption) ?y341 ?_
          case y341 => (intro w hSw; (try dsimp only at hSw); go_simp; (try with_reducible rfl))
          try simp only [Act.put, List.setIfInBounds_toArray, List.set_cons_zero, List.set_cons_succ]
          refine take_on (i := 12) (v := ?v342) rfl (by kernel_rfl) (by kernel_rfl) (by kernel_rfl) (fun _ _ _ h => h) (by rfl) (by assumption) ?y342 ?_
          case y342 => (intro w hSw; (try dsimp only at hSw); go_simp; (try with_reducible rfl))
          try simp only [Act.put, List.setIfInBounds_toArray, List.set_cons_zero, List.set_cons_succ]
          refine take_on (i := 13) (v := ?v343) rfl (by kernel_rfl) (by kernel_rfl) (by kernel_rfl) (fun _ _ _ h => h) (by rfl) (by assumption) ?y343 ?_
          case y343 => (intro w hSw; (try dsimp only at hSw); go_simp; (try with_reducible rfl))
          try simp only [Act.put, List.setIfInBounds_toArray, List.set_cons_zero, List.set_cons_succ]
          refine take_on (i := 14) (v := ?v344) rfl (by kernel_rfl) (by kernel_rfl) (by kernel_rfl) (fun _ _ _ h => h) (by rfl) (by assumption) ?y344 ?_
          case y344 => (intro w hSw; (try dsimp only at hSw); go_simp; (try with_reducible rfl))
          try simp only [Act.put, List.setIfInBounds_toArray, List.set_cons_zero, List.set_cons_succ]
          refine take_on (i := 15) (v := ?v345) rfl (by kernel_rfl) (by kernel_rfl) (by kernel_rfl) (fun _ _ _ h => h) (by rfl) (by assumption) ?y345 ?_
          case y345 => (intro w hSw; (try dsimp only at hSw); go_simp; (try with_reducible rfl))
          try simp only [Act.put, List.setIfInBounds_toArray, List.set_cons_zero, List.set_cons_succ]
          refine take_on (i := 16) (v := ?v346) rfl (by kernel_rfl) (by kernel_rfl) (by kernel_rfl) (fun _ _ _ h => h) (by rfl) (by assumption) ?y346 ?_
          case y346 => (intro w hSw; (try dsimp only at hSw); go_simp; (try with_reducible rfl))
          try simp only [Act.put, List.setIfInBounds_toArray, List.set_cons_zero, List.set_cons_succ]
          refine take_on (i := 17) (v := ?v347) rfl (by kernel_rfl) (by kernel_rfl) (by kernel_rfl) (fun _ _ _ h => h) (by rfl) (by assumption) ?y347 ?_
          case y347 => (intro w hSw; (try dsimp only at hSw); go_simp; (try with_reducible rfl))
          try simp only [Act.put, List.setIfInBounds_toArray, List.set_cons_zero, List.set_cons_succ]
          refine take_on (i := 18) (v := ?v348) rfl (by kernel_rfl) (by kernel_rfl) (by kernel_rfl) (fun _ _ _ h => h) (by rfl) (by assumption) ?y348 ?_
          case y348 => (intro w hSw; (try dsimp only at hSw); go_simp; (try with_reducible rfl))
          try simp only [Act.put, List.setIfInBounds_toArray, List.set_cons_zero, List.set_cons_succ]
          refine one_ready (i := 19) rfl (by kernel_rfl) (by rfl) (fun K hK => ?_)
          go_simp
          go_at_call 43
          refine (hp.out _).mono ?_
          rintro e' w' ⟨rfl, rfl⟩
          have hh := hHeld
          try go_simp
          refine hK.out _ _ (by first | exact hh | exact ⟨Below.drew hh.1, hh.2⟩ | exact hHeld) (fun hHeld => ?_)
          clear hK K
          try simp only [Act.put, List.setIfInBounds_toArray, List.set_cons_zero, List.set_cons_succ]
          refine take_on (i := 20) (v := ?v350) rfl (by kernel_rfl) (by kernel_rfl) (by kernel_rfl) (fun _ _ _ h => h) (by rfl) (by assumption) ?y350 ?_
          case y350 => (intro w hSw; (try dsimp only at hSw); go_simp; (try with_reducible rfl))
          try simp only [Act.put, List.setIfInBounds_toArray, List.set_cons_zero, List.set_cons_succ]
          refine take_on (i := 21) (v := ?v351) rfl (by kernel_rfl) (by kernel_rfl) (by kernel_rfl) (fun _ _ _ h => h) (by rfl) (by assumption) ?y351 ?_
          case y351 => (intro w hSw; (try dsimp only at hSw); go_simp; (try with_reducible rfl))
          try simp only [Act.put, List.setIfInBounds_toArray, List.set_cons_zero, List.set_cons_succ]
          refine wpAnyH_done (by kernel_rfl) ?_ _
          have A1 := A0.trans hHeld.1
          obtain ⟨_, x0, x1, x2, x3, x4⟩ := hHeld
          clear c0 c1 c2 c3 c4 A0
          go_wp2
          go_ret2
          exact ⟨rfl, A1⟩
        · have HV := Lib.hid (cdV_in (by omega) hpq hf)
          have HX := Lib.hid (fun w => Next_any m d (260 * y - 1) w)
          rw [hpq] at hp
          clear hpq
          rw [HV.out]
          have hm1 : y * 260 - 1 = 260 * y - 1 := by omega
          obtain ⟨s, hs⟩ : ∃ s, 260 * y - 1 = s := ⟨_, rfl⟩
          rw [hs] at HX hm1 ⊢
          have HS := Lib.hid hm1
          clear hm1 hs HV
          generalize nextV m d s = V at *
          go_enter Tryd.func30, Tryd.ntmps30
          go_wp2
          refine wp_region_held_drew (S := fun w' => Aft (w.alloc (.cells #[.int .i64 3, .int .i64 y, .int .i64 m, .int .i64 d, .bool false] 30)) w' ∧ w'.cell? ⟨w.heap.size, 0, none⟩ = some (.int .i64 3) ∧ w'.cell? ⟨w.heap.size, 1, none⟩ = some (.int .i64 y) ∧ w'.cell? ⟨w.heap.size, 2, none⟩ = some (.int .i64 m) ∧ w'.cell? ⟨w.heap.size, 3, none⟩ = some (.int .i64 d) ∧ w'.cell? ⟨w.heap.size, 4, none⟩ = some (.bool false)) (by kernel_rfl) (⟨Below.drew (Aft.refl _), c0, c1, c2, c3, c4⟩) (fun hHeld => ?_)
          refine take_on (i := 0) (v := ?v352) rfl (by kernel_rfl) (by kernel_rfl) (by kernel_rfl) (fun _ _ _ h => h) (by rfl) (by assumption) ?y352 ?_
          case y352 => (intro w hSw; (try dsimp only at hSw); go_simp; (try with_reducible rfl))
          try simp only [Act.put, List.setIfInBounds_toArray, List.set_cons_zero, List.set_cons_succ]
          refine take_on (i := 1) (v := ?v353) rfl (by kernel_rfl) (by kernel_rfl) (by kernel_rfl) (fun _ _ _ h => h) (by rfl) (by assumption) ?y353 ?_
          case y353 => (intro w hSw; (try dsimp only at hSw); go_simp; (try with_reducible rfl))
          try simp only [Act.put, List.setIfInBounds_toArray, List.set_cons_zero, List.set_cons_succ]
          refine take_on (i := 2) (v := ?v354) rfl (by kernel_rfl) (by kernel_rfl) (by kernel_rfl) (fun _ _ _ h => h) (by rfl) (by assumption) ?y354 ?_
          case y354 => (intro w hSw; (try dsimp only at hSw); go_simp; (try with_reducible rfl))
          try simp only [Act.put, List.setIfInBounds_toArray, List.set_cons_zero, List.set_cons_succ]
          refine take_on (i := 3) (v := ?v355) rfl (by kernel_rfl) (by kernel_rfl) (by kernel_rfl) (fun _ _ _ h => h) (by rfl) (by assumption) ?y355 ?_
          case y355 => (intro w hSw; (try dsimp only at hSw); go_simp; (try with_reducible rfl))
          try simp only [Act.put, List.setIfInBounds_toArray, List.set_cons_zero, List.set_cons_succ]
          refine take_on (i := 4) (v := ?v356) rfl (by kernel_rfl) (by kernel_rfl) (by kernel_rfl) (fun _ _ _ h => h) (by rfl) (by assumption) ?y356 ?_
          case y356 => (intro w hSw; (try dsimp only at hSw); go_simp; (try with_reducible rfl))
          try simp only [Act.put, List.setIfInBounds_toArray, List.set_cons_zero, List.set_cons_succ]
          refine take_on (i := 5) (v := ?v357) rfl (by kernel_rfl) (by kernel_rfl) (by kernel_rfl) (fun _ _ _ h => h) (by rfl) (by assumption) ?y357 ?_
          case y357 => (intro w hSw; (try dsimp only at hSw); go_simp; (try with_reducible rfl))
          try simp only [Act.put, List.setIfInBounds_toArray, List.set_cons_zero, List.set_cons_succ]
          refine take_on (i := 6) (v := ?v358) rfl (by kernel_rfl) (by kernel_rfl) (by kernel_rfl) (fun _ _ _ h => h) (by rfl) (by assumption) ?y358 ?_
          case y358 => (intro w hSw; (try dsimp only at hSw); go_simp; (try with_reducible rfl))
          try simp only [Act.put, List.setIfInBounds_toArray, List.set_cons_zero, List.set_cons_succ]
          refine one_ready (i := 7) rfl (by kernel_rfl) (by rfl) (fun K hK => ?_)
          go_simp
          go_at_call 42
          refine (cycleDate_any _ _ _ _).mono ?_
          rintro e' w' ⟨rfl, N9⟩
          have hh : (fun w' => Aft (w.alloc (.cells #[.int .i64 3, .int .i64 y, .int .i64 m, .int .i64 d, .bool false] 30)) w' ∧ w'.cell? ⟨w.heap.size, 0, none⟩ = some (.int .i64 3) ∧ w'.cell? ⟨w.heap.size, 1, none⟩ = some (.int .i64 y) ∧ w'.cell? ⟨w.heap.size, 2, none⟩ = some (.int .i64 m) ∧ w'.cell? ⟨w.heap.size, 3, none⟩ = some (.int .i64 d) ∧ w'.cell? ⟨w.heap.size, 4, none⟩ = some (.bool false)) w' := ds_aft hHeld (Aft.trans (by first | exact Aft.refl _ | exact Below.drew (Aft.refl _)) N9)
          clear N9
          try go_simp
          refine hK.out _ _ (by first | exact hh | exact ⟨Below.drew hh.1, hh.2⟩ | exact hHeld) (fun hHeld => ?_)
          clear hK K
          try simp only [Act.put, List.setIfInBounds_toArray, List.set_cons_zero, List.set_cons_succ]
          refine take_on (i := 8) (v := ?v360) rfl (by kernel_rfl) (by kernel_rfl) (by kernel_rfl) (fun _ _ _ h => h) (by rfl) (by assumption) ?y360 ?_
          case y360 => (intro w hSw; (try dsimp only at hSw); go_simp; (try with_reducible rfl))
          try simp only [Act.put, List.setIfInBounds_toArray, List.set_cons_zero, List.set_cons_succ]
          refine take_on (i := 9) (v := ?v361) rfl (by kernel_rfl) (by kernel_rfl) (by kernel_rfl) (fun _ _ _ h => h) (by rfl) (by assumption) ?y361 ?_
          case y361 => (intro w hSw; (try dsimp only at hSw); go_simp; (try with_reducible rfl))
          try simp only [Act.put, List.setIfInBounds_toArray, List.set_cons_zero, List.set_cons_succ]
          refine take_on (i := 10) (v := ?v362) rfl (by kernel_rfl) (by kernel_rfl) (by kernel_rfl) (fun _ _ _ h => h) (by rfl) (by assumption) ?y362 ?_
          case y362 => (intro w hSw; (try dsimp only at hSw); go_simp; (try with_reducible rfl))
          try simp only [Act.put, List.setIfInBounds_toArray, List.set_cons_zero, List.set_cons_succ]
          refine take_on (i := 11) (v := ?v363) rfl (by kernel_rfl) (by kernel_rfl) (by kernel_rfl) (fun _ _ _ h => h) (by rfl) (by assumption) ?y363 ?_
          case y363 => (intro w hSw; (try dsimp only at hSw); go_simp; (try with_reducible rfl))
          try simp only [Act.put, List.setIfInBounds_toArray, List.set_cons_zero, List.set_cons_succ]
          refine take_on (i := 12) (v := ?v364) rfl (by kernel_rfl) (by kernel_rfl) (by kernel_rfl) (fun _ _ _ h => h) (by rfl) (by assumption) ?y364 ?_
          case y364 => (intro w hSw; (try dsimp only at hSw); go_simp; (try with_reducible rfl))
          try simp only [Act.put, List.setIfInBounds_toArray, List.set_cons_zero, List.set_cons_succ]
          refine take_on (i := 13) (v := ?v365) rfl (by kernel_rfl) (by kernel_rfl) (by kernel_rfl) (fun _ _ _ h => h) (by rfl) (by assumption) ?y365 ?_
          case y365 => (intro w hSw; (try dsimp only at hSw); go_simp; (try with_reducible rfl))
          try simp only [Act.put, List.setIfInBounds_toArray, List.set_cons_zero, List.set_cons_succ]
          refine take_on (i := 14) (v := ?v366) rfl (by kernel_rfl) (by kernel_rfl) (by kernel_rfl) (fun _ _ _ h => h) (by rfl) (by assumption) ?y366 ?_
          case y366 => (intro w hSw; (try dsimp only at hSw); go_simp; (try with_reducible rfl))
          try simp only [Act.put, List.setIfInBounds_toArray, List.set_cons_zero, List.set_cons_succ]
          refine take_on (i := 15) (v := ?v367) rfl (by kernel_rfl) (by kernel_rfl) (by kernel_rfl) (fun _ _ _ h => h) (by rfl) (by assumption) ?y367 ?_
          case y367 => (intro w hSw; (try dsimp only at hSw); go_simp; (try with_reducible rfl))
          try simp only [Act.put, List.setIfInBounds_toArray, List.set_cons_zero, List.set_cons_succ]
          refine take_on (i := 16) (v := ?v368) rfl (by kernel_rfl) (by kernel_rfl) (by kernel_rfl) (fun _ _ _ h => h) (by rfl) (by assumption) ?y368 ?_
          case y368 => (intro w hSw; (try dsimp only at hSw); go_simp; (try with_reducible rfl))
          try simp only [Act.put, List.setIfInBounds_toArray, List.set_cons_zero, List.set_cons_succ]
          refine take_on (i := 17) (v := ?v369) rfl (by kernel_rfl) (by kernel_rfl) (by kernel_rfl) (fun _ _ _ h => h) (by rfl) (by assumption) ?y369 ?_
          case y369 => (intro w hSw; (try dsimp only at hSw); go_simp; (try with_reducible rfl))
          try simp only [Act.put, List.setIfInBounds_toArray, List.set_cons_zero, List.set_cons_succ]
          refine take_on (i := 18) (v := ?v370) rfl (by kernel_rfl) (by kernel_rfl) (by kernel_rfl) (fun _ _ _ h => h) (by rfl) (by assumption) ?y370 ?_
          case y370 => (intro w hSw; (try dsimp only at hSw); go_simp; (try with_reducible rfl))
          try simp only [Act.put, List.setIfInBounds_toArray, List.set_cons_zero, List.set_cons_succ]
          refine one_ready (i := 19) rfl (by kernel_rfl) (by rfl) (fun K hK => ?_)
          go_simp
          go_at_call 43
          refine (hp.out _).mono ?_
          rintro e' w' ⟨rfl, rfl⟩
          have hh := hHeld
          try go_simp
          refine hK.out _ _ (by first | exact hh | exact ⟨Below.drew hh.1, hh.2⟩ | exact hHeld) (fun hHeld => ?_)
          clear hK K
          try simp only [Act.put, List.setIfInBounds_toArray, List.set_cons_zero, List.set_cons_succ]
          refine take_on (i := 20) (v := ?v372) rfl (by kernel_rfl) (by kernel_rfl) (by kernel_rfl) (fun _ _ _ h => h) (by rfl) (by assumption) ?y372 ?_
          case y372 => (intro w hSw; (try dsimp only at hSw); go_simp; (try with_reducible rfl))
          try simp only [Act.put, List.setIfInBounds_toArray, List.set_cons_zero, List.set_cons_succ]
          refine take_on (i := 21) (v := ?v373) rfl (by kernel_rfl) (by kernel_rfl) (by kernel_rfl) (fun _ _ _ h => h) (by rfl) (by assumption) ?y373 ?_
          case y373 => (intro w hSw; (try dsimp only at hSw); go_simp; (try with_reducible rfl))
          try simp only [Act.put, List.setIfInBounds_toArray, List.set_cons_zero, List.set_cons_succ]
          refine wpAnyH_done (by kernel_rfl) ?_ _
          have A1 := A0.trans hHeld.1
          obtain ⟨_, x0, x1, x2, x3, x4⟩ := hHeld
          clear c0 c1 c2 c3 c4 A0
          have hmm : y * 260 - 1 = s := HS.out
          go_wp2_with fail
          refine (HX.out _).mono ?_
          rintro e' w' ⟨rfl, NX⟩
          go_wp2
          go_ret2
          exact ⟨rfl, A1.trans NX⟩
  · rw [cdV_bad (fun h => hcl ⟨h.1, h.2.1⟩)]
    have A0 := (Aft.refl w).alloc (.cells #[.int .i64 c, .int .i64 y, .int .i64 m, .int .i64 d, .bool l] 30)
    have b0 := BoxD.new w c y m d l
    obtain ⟨c0, c1, c2, c3, c4⟩ := b0.five
    clear b0
    have hq := deq_not (c := c) (y := y) (m := m) (d := d) (l := l) (c' := 3) (y' := y) (m' := m) (d' := d) (l' := false) (fun h => hcl ⟨h.1, h.2.2.2.2⟩)
    go_enter Tryd.func30, Tryd.ntmps30
    go_wp2
    refine wp_region_held_drew (S := fun w' => Aft (w.alloc (.cells #[.int .i64 c, .int .i64 y, .int .i64 m, .int .i64 d, .bool l] 30)) w' ∧ w'.cell? ⟨w.heap.size, 0, none⟩ = some (.int .i64 c) ∧ w'.cell? ⟨w.heap.size, 1, none⟩ = some (.int .i64 y) ∧ w'.cell? ⟨w.heap.size, 2, none⟩ = some (.int .i64 m) ∧ w'.cell? ⟨w.heap.size, 3, none⟩ = some (.int .i64 d) ∧ w'.cell? ⟨w.heap.size, 4, none⟩ = some (.bool l)) (by kernel_rfl) (⟨Below.drew (Aft.refl _), c0, c1, c2, c3, c4⟩) (fun hHeld => ?_)
    refine take_on (i := 0) (v := ?v374) rfl (by kernel_rfl) (by kernel_rfl) (by kernel_rfl) (fun _ _ _ h => h) (by rfl) (by assumption) ?y374 ?_
    case y374 => (intro w hSw; (try dsimp only at hSw); go_simp; (try with_reducible rfl))
    try simp only [Act.put, List.setIfInBounds_toArray, List.set_cons_zero, List.set_cons_succ]
    refine take_on (i := 1) (v := ?v375) rfl (by kernel_rfl) (by kernel_rfl) (by kernel_rfl) (fun _ _ _ h => h) (by rfl) (by assumption) ?y375 ?_
    case y375 => (intro w hSw; (try dsimp only at hSw); go_simp; (try with_reducible rfl))
    try simp only [Act.put, List.setIfInBounds_toArray, List.set_cons_zero, List.set_cons_succ]
    refine take_on (i := 2) (v := ?v376) rfl (by kernel_rfl) (by kernel_rfl) (by kernel_rfl) (fun _ _ _ h => h) (by rfl) (by assumption) ?y376 ?_
    case y376 => (intro w hSw; (try dsimp only at hSw); go_simp; (try with_reducible rfl))
    try simp only [Act.put, List.setIfInBounds_toArray, List.set_cons_zero, List.set_cons_succ]
    refine take_on (i := 3) (v := ?v377) rfl (by kernel_rfl) (by kernel_rfl) (by kernel_rfl) (fun _ _ _ h => h) (by rfl) (by assumption) ?y377 ?_
    case y377 => (intro w hSw; (try dsimp only at hSw); go_simp; (try with_reducible rfl))
    try simp only [Act.put, List.setIfInBounds_toArray, List.set_cons_zero, List.set_cons_succ]
    refine take_on (i := 4) (v := ?v378) rfl (by kernel_rfl) (by kernel_rfl) (by kernel_rfl) (fun _ _ _ h => h) (by rfl) (by assumption) ?y378 ?_
    case y378 => (intro w hSw; (try dsimp only at hSw); go_simp; (try with_reducible rfl))
    try simp only [Act.put, List.setIfInBounds_toArray, List.set_cons_zero, List.set_cons_succ]
    refine take_on (i := 5) (v := ?v379) rfl (by kernel_rfl) (by kernel_rfl) (by kernel_rfl) (fun _ _ _ h => h) (by rfl) (by assumption) ?y379 ?_
    case y379 => (intro w hSw; (try dsimp only at hSw); go_simp; (try with_reducible rfl))
    try simp only [Act.put, List.setIfInBounds_toArray, List.set_cons_zero, List.set_cons_succ]
    refine take_on (i := 6) (v := ?v380) rfl (by kernel_rfl) (by kernel_rfl) (by kernel_rfl) (fun _ _ _ h => h) (by rfl) (by assumption) ?y380 ?_
    case y380 => (intro w hSw; (try dsimp only at hSw); go_simp; (try with_reducible rfl))
    try simp only [Act.put, List.setIfInBounds_toArray, List.set_cons_zero, List.set_cons_succ]
    refine one_ready (i := 7) rfl (by kernel_rfl) (by rfl) (fun K hK => ?_)
    go_simp
    go_at_call 42
    refine (cycleDate_any _ _ _ _).mono ?_
    rintro e' w' ⟨rfl, N9⟩
    have hh : (fun w' => Aft (w.alloc (.cells #[.int .i64 c, .int .i64 y, .int .i64 m, .int .i64 d, .bool l] 30)) w' ∧ w'.cell? ⟨w.heap.size, 0, none⟩ = some (.int .i64 c) ∧ w'.cell? ⟨w.heap.size, 1, none⟩ = some (.int .i64 y) ∧ w'.cell? ⟨w.heap.size, 2, none⟩ = some (.int .i64 m) ∧ w'.cell? ⟨w.heap.size, 3, none⟩ = some (.int .i64 d) ∧ w'.cell? ⟨w.heap.size, 4, none⟩ = some (.bool l)) w' := ds_aft hHeld (Aft.trans (by first | exact Aft.refl _ | exact Below.drew (Aft.refl _)) N9)
    clear N9
    try go_simp
    refine hK.out _ _ (by first | exact hh | exact ⟨Below.drew hh.1, hh.2⟩ | exact hHeld) (fun hHeld => ?_)
    clear hK K
    try simp only [Act.put, List.setIfInBounds_toArray, List.set_cons_zero, List.set_cons_succ]
    refine take_on (i := 8) (v := ?v382) rfl (by kernel_rfl) (by kernel_rfl) (by kernel_rfl) (fun _ _ _ h => h) (by rfl) (by assumption) ?y382 ?_
    case y382 => (intro w hSw; (try dsimp only at hSw); go_simp; (try with_reducible rfl))
    try simp only [Act.put, List.setIfInBounds_toArray, List.set_cons_zero, List.set_cons_succ]
    refine take_on (i := 9) (v := ?v383) rfl (by kernel_rfl) (by kernel_rfl) (by kernel_rfl) (fun _ _ _ h => h) (by rfl) (by assumption) ?y383 ?_
    case y383 => (intro w hSw; (try dsimp only at hSw); go_simp; (try with_reducible rfl))
    try simp only [Act.put, List.setIfInBounds_toArray, List.set_cons_zero, List.set_cons_succ]
    refine take_off (i := 10) rfl (by kernel_rfl) (by kernel_rfl) (by kernel_rfl) (fun _ _ _ h => h) (by rfl) (by assumption) ?_
    try simp only [Act.put, List.setIfInBounds_toArray, List.set_cons_zero, List.set_cons_succ]
    refine take_off (i := 11) rfl (by kernel_rfl) (by kernel_rfl) (by kernel_rfl) (fun _ _ _ h => h) (by rfl) (by assumption) ?_
    try simp only [Act.put, List.setIfInBounds_toArray, List.set_cons_zero, List.set_cons_succ]
    refine take_off (i := 12) rfl (by kernel_rfl) (by kernel_rfl) (by kernel_rfl) (fun _ _ _ h => h) (by rfl) (by assumption) ?_
    try simp only [Act.put, List.setIfInBounds_toArray, List.set_cons_zero, List.set_cons_succ]
    refine take_on (i := 13) (v := ?v387) rfl (by kernel_rfl) (by kernel_rfl) (by kernel_rfl) (fun _ _ _ h => h) (by rfl) (by assumption) ?y387 ?_
    case y387 => (intro w hSw; (try dsimp only at hSw); go_simp; (try with_reducible rfl))
    try simp only [Act.put, List.setIfInBounds_toArray, List.set_cons_zero, List.set_cons_succ]
    refine take_on (i := 14) (v := ?v388) rfl (by kernel_rfl) (by kernel_rfl) (by kernel_rfl) (fun _ _ _ h => h) (by rfl) (by assumption) ?y388 ?_
    case y388 => (intro w hSw; (try dsimp only at hSw); go_simp; (try with_reducible rfl))
    try simp only [Act.put, List.setIfInBounds_toArray, List.set_cons_zero, List.set_cons_succ]
    refine take_off (i := 15) rfl (by kernel_rfl) (by kernel_rfl) (by kernel_rfl) (fun _ _ _ h => h) (by rfl) (by assumption) ?_
    try simp only [Act.put, List.setIfInBounds_toArray, List.set_cons_zero, List.set_cons_succ]
    refine take_off (i := 16) rfl (by kernel_rfl) (by kernel_rfl) (by kernel_rfl) (fun _ _ _ h => h) (by rfl) (by assumption) ?_
    try simp only [Act.put, List.setIfInBounds_toArray, List.set_cons_zero, List.set_cons_succ]
    refine take_off (i := 17) rfl (by kernel_rfl) (by kernel_rfl) (by kernel_rfl) (fun _ _ _ h => h) (by rfl) (by assumption) ?_
    try simp only [Act.put, List.setIfInBounds_toArray, List.set_cons_zero, List.set_cons_succ]
    refine take_off (i := 18) rfl (by kernel_rfl) (by kernel_rfl) (by kernel_rfl) (fun _ _ _ h => h) (by rfl) (by assumption) ?_
    try simp only [Act.put, List.setIfInBounds_toArray, List.set_cons_zero, List.set_cons_succ]
    refine take_off (i := 19) rfl (by kernel_rfl) (by kernel_rfl) (by kernel_rfl) (fun _ _ _ h => h) (by rfl) (by assumption) ?_
    try simp only [Act.put, List.setIfInBounds_toArray, List.set_cons_zero, List.set_cons_succ]
    refine take_off (i := 20) rfl (by kernel_rfl) (by kernel_rfl) (by kernel_rfl) (fun _ _ _ h => h) (by rfl) (by assumption) ?_
    try simp only [Act.put, List.setIfInBounds_toArray, List.set_cons_zero, List.set_cons_succ]
    refine take_on (i := 21) (v := ?v395) rfl (by kernel_rfl) (by kernel_rfl) (by kernel_rfl) (fun _ _ _ h => h) (by rfl) (by assumption) ?y395 ?_
    case y395 => (intro w hSw; (try dsimp only at hSw); go_simp; (try with_reducible rfl))
    try simp only [Act.put, List.setIfInBounds_toArray, List.set_cons_zero, List.set_cons_succ]
    refine wpAnyH_done (by kernel_rfl) ?_ _
    go_wp2
    go_ret2
    exact ⟨rfl, A0.trans hHeld.1⟩

theorem refCycleDay_any (c y m d : Int) (l : Bool) (w : World) : Calls Tryd.prog 31 #[(.agg #[.int .i64 c, .int .i64 y, .int .i64 m, .int .i64 d, .bool l])] w (ValPost w (.tuple #[.int .i64 (cdV c y m d l).1, .int .i64 (cdV c y m d l).2])) := by
  have A0 := (Aft.refl w).alloc (.cells #[.int .i64 c, .int .i64 y, .int .i64 m, .int .i64 d, .bool l] 30)
  by_cases hc : c = 3
  · subst hc
    cases l
    · by_cases hy : y < 0
      · rw [cdV_bad (fun h => by have := h.2.2.1; omega)]
        go_enter Tryd.func31, Tryd.ntmps31
        go_wp2
        go_ret2
        exact ⟨rfl, A0⟩
      · cases hpq : pairB m d
        · rw [cdV_bad (fun h => by rw [hpq] at h; cases h.2.2.2)]
          have hn := pair_no hpq
          clear hpq
          by_cases g1 : m < 1
          · go_enter Tryd.func31, Tryd.ntmps31
            go_wp2
            go_ret2
            exact ⟨rfl, A0⟩
          · by_cases g2 : 13 < m
            · go_enter Tryd.func31, Tryd.ntmps31
              go_wp2
              go_ret2
              exact ⟨rfl, A0⟩
            · by_cases g3 : d < 0
              · go_enter Tryd.func31, Tryd.ntmps31
                go_wp2
                go_ret2
                exact ⟨rfl, A0⟩
              · have g4 : 19 < d := by omega
                clear hn
                go_enter Tryd.func31, Tryd.ntmps31
                go_wp2
                go_ret2
                exact ⟨rfl, A0⟩
        · obtain ⟨p1, p2, p3, p4⟩ := pair_yes hpq
          by_cases hf : 3846 < y
          · rw [cdV_far (by omega) hpq hf]
            clear hpq
            go_enter Tryd.func31, Tryd.ntmps31
            go_wp2
            go_ret2
            exact ⟨rfl, A0⟩
          · have HV := Lib.hid (cdV_in (by omega) hpq hf)
            have HX := Lib.hid (fun w => refNext_any m d (260 * y - 1) w)
            clear hpq
            rw [HV.out]
            clear HV
            generalize nextV m d (260 * y - 1) = V at *
            go_enter Tryd.func31, Tryd.ntmps31
            go_wp2_with fail
            refine (HX.out _).mono ?_
            rintro e' w' ⟨rfl, rfl⟩
            go_wp2
            go_ret2
            exact ⟨rfl, A0⟩
    · rw [cdV_bad (fun h => by cases h.2.1)]
      go_enter Tryd.func31, Tryd.ntmps31
      go_wp2
      go_ret2
      exact ⟨rfl, A0⟩
  · have hcn : (c != 3) = true := by simp [hc]
    have hcn2 : (c == 3) = false := by simp [hc]
    rw [cdV_bad (fun h => hc h.1)]
    go_enter Tryd.func31, Tryd.ntmps31
    go_wp2
    go_ret2
    exact ⟨rfl, A0⟩
end Go.Proofs.YtdeojpmimhagjaaDoor
