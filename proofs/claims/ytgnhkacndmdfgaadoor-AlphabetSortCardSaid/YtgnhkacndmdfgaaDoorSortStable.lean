/-
  SortStableFunc of package slices, over a row of at most 40 strings. Conditions: the row holds the strings, the comparison's map and the tables lie elsewhere.
-/
import Derived.Test.YtgnhkacndmdfgaaDoorSortSymD
namespace Go.Proofs.YtgnhkacndmdfgaaDoor
open Go.RowKit
open AlphPlain SortPlain

set_option maxRecDepth 100000 in
set_option maxHeartbeats 3200000 in
theorem stable_any (w1 : World) (blk Bc Bm kk : Nat) (D : DataW Unit) (ls : List Lt) (c : Cx w1 blk Bc Bm kk D ls) (n cap : Nat) (d : List ByteArray) (W : World) (h : Sw w1 blk d W) (hn : d.length = n) (h40 : n ≤ 40) :
    Calls Tryd.prog 56 #[.slice (some ⟨blk, 0, none⟩) n cap, .int .i64 (n : Nat), cv Bc] W (UnitSw w1 blk (isort (ltb ls) d)) := by
  by_cases hA : n < 20
  · have a1 : ¬ (20 : Int) ≤ (n : Int) := by omega
    have a2 : ¬ (20 : Int) < (n : Int) := by omega
    have hz := insertion_any w1 blk Bc Bm kk D ls c n cap 0 n [] d [] W (by simpa using h) (by simp; omega) rfl (by simp; omega) (by omega)
    clear h hn
    go_enter Tryd.func56, Tryd.ntmps56
    go_wp2
    refine wp_loop_rounds 1 ?_
    rw [rounds_succ]
    go_wp2_with fail
    refine hz.mono ?_
    rintro e v1 ⟨rfl, q1⟩
    clear hz
    go_wp2
    refine wp_loop_rounds 1 ?_
    rw [rounds_succ]
    go_wp2
    go_end0
    exact ⟨rfl, by simpa using q1⟩
  obtain ⟨L, R, hd, lL, lR⟩ := split_len (l := d) (k := 20) (by omega)
  have il : (isort (ltb ls) L).length = 20 := by rw [isort_len]; exact lL
  have ir : (isort (ltb ls) R).length = n - 20 := by rw [isort_len]; omega
  have hfin : isort (ltb ls) d = mg (ltb ls) (isort (ltb ls) L) (isort (ltb ls) R) := by rw [hd]; exact isort_append (ltb_weak ls) L R
  have sL := isort_srt (ltb_weak ls) L
  have sR := isort_srt (ltb_weak ls) R
  rw [hd] at h
  have HF := Lib.hid hfin
  have LL := Lib.hid lL
  have LR := Lib.hid (show R.length = n - 20 by omega)
  have IL := Lib.hid il
  have IR := Lib.hid ir
  have z1 : ∀ w0, Sw w1 blk (L ++ R) w0 → Calls Tryd.prog 60 #[.slice (some ⟨blk, 0, none⟩) n cap, .int .i64 0, .int .i64 20, cv Bc] w0 (UnitSw w1 blk (isort (ltb ls) L ++ R)) := fun w0 h => by
    have := insertion_any w1 blk Bc Bm kk D ls c n cap 0 20 [] L R w0 (by simpa using h) (by simp; omega) rfl (by simp; omega) (by omega)
    simpa using this
  have z2 : ∀ w0, Sw w1 blk (isort (ltb ls) L ++ R) w0 → Calls Tryd.prog 60 #[.slice (some ⟨blk, 0, none⟩) n cap, .int .i64 20, .int .i64 (n : Nat), cv Bc] w0 (UnitSw w1 blk (isort (ltb ls) L ++ isort (ltb ls) R)) := fun w0 h => by
    have := insertion_any w1 blk Bc Bm kk D ls c n cap 20 n (isort (ltb ls) L) R [] w0 (by simpa using h) (by simp; omega) (by omega) (by omega) (by omega)
    simpa using this
  have z4 : 0 < R.length → ∀ b : Nat, b = n → ∀ w0, Sw w1 blk (isort (ltb ls) L ++ isort (ltb ls) R) w0 → Calls Tryd.prog 61 #[.slice (some ⟨blk, 0, none⟩) n cap, .int .i64 0, .int .i64 20, .int .i64 (b : Nat), cv Bc] w0 (UnitSw w1 blk (isort (ltb ls) d)) := fun h0 b hb w0 h => by
    have := sym_any w1 blk Bc Bm kk D ls c n cap (by omega) _ 0 20 b [] (isort (ltb ls) L) (isort (ltb ls) R) [] w0 (Nat.le_refl _) (by omega) (by omega) sL sR (by simpa using h) (by simp; omega) rfl (by simp; omega) (by simp; omega)
    rw [hfin]
    simpa using this
  have Z1 := Lib.hid z1
  have Z2 := Lib.hid z2
  have Z4 := Lib.hid z4
  by_cases hB : n = 20
  · have a1 : (20 : Int) ≤ (n : Int) := by omega
    have a2 : ¬ (40 : Int) ≤ (n : Int) := by omega
    have a3 : ¬ (20 : Int) < (n : Int) := by omega
    have HB := Lib.hid hB
    clear z1 z2 z4 hn hd lL lR il ir hfin sL sR hB
    go_enter Tryd.func56, Tryd.ntmps56
    go_wp2
    refine wp_loop_rounds 2 ?_
    rw [rounds_succ]
    go_wp2_with fail
    have hz := Z1.out _ h
    refine hz.mono ?_
    rintro e v1 ⟨rfl, q1⟩
    clear hz
    go_wp2_with fail
    rw [rounds_succ]
    go_wp2_with fail
    have hz := Z2.out _ q1
    refine hz.mono ?_
    rintro e v2 ⟨rfl, q2⟩
    clear hz
    go_wp2
    refine wp_loop_rounds 1 ?_
    rw [rounds_succ]
    go_wp2
    go_end0
    have hR : R = [] := List.length_eq_zero_iff.1 (by have := LR.out; have := HB.out; omega)
    refine ⟨rfl, ?_⟩
    rw [HF.out, hR, show isort (ltb ls) [] = [] from rfl, mg_nil]
    rw [hR, show isort (ltb ls) [] = [] from rfl, List.append_nil] at q2
    exact q2
  by_cases hC : n < 40
  · have a1 : (20 : Int) ≤ (n : Int) := by omega
    have a2 : ¬ (40 : Int) ≤ (n : Int) := by omega
    have a3 : (20 : Int) < (n : Int) := by omega
    have a4 : ¬ (40 : Int) < (n : Int) := by omega
    clear z1 z2 z4 hn hd lL lR il ir hfin sL sR
    go_enter Tryd.func56, Tryd.ntmps56
    go_wp2
    refine wp_loop_rounds 2 ?_
    rw [rounds_succ]
    go_wp2_with fail
    have hz := Z1.out _ h
    refine hz.mono ?_
    rintro e v1 ⟨rfl, q1⟩
    clear hz
    go_wp2_with fail
    rw [rounds_succ]
    go_wp2_with fail
    have hz := Z2.out _ q1
    refine hz.mono ?_
    rintro e v2 ⟨rfl, q2⟩
    clear hz
    go_wp2
    refine wp_loop_rounds 2 ?_
    rw [rounds_succ]
    go_wp2
    refine wp_loop_rounds 1 ?_
    rw [rounds_succ]
    go_wp2_with fail
    have hz := Z4.out (by have := LR.out; omega) n rfl _ q2
    refine hz.mono ?_
    rintro e v3 ⟨rfl, q3⟩
    clear hz
    go_wp2_with fail
    rw [rounds_succ]
    go_wp2
    go_end0
    exact ⟨rfl, q3⟩
  · have a1 : (20 : Int) ≤ (n : Int) := by omega
    have a2 : (40 : Int) ≤ (n : Int) := by omega
    have a3 : ¬ (60 : Int) ≤ (n : Int) := by omega
    have a4 : (20 : Int) < (n : Int) := by omega
    have a5 : ¬ (80 : Int) ≤ (n : Int) := by omega
    have a6 : ¬ (60 : Int) < (n : Int) := by omega
    have a7 : ¬ (40 : Int) < (n : Int) := by omega
    have y2 : ∀ w0, Sw w1 blk (isort (ltb ls) L ++ R) w0 → Calls Tryd.prog 60 #[.slice (some ⟨blk, 0, none⟩) n cap, .int .i64 20, .int .i64 40, cv Bc] w0 (UnitSw w1 blk (isort (ltb ls) L ++ isort (ltb ls) R)) := fun w0 h => by
      have := insertion_any w1 blk Bc Bm kk D ls c n cap 20 40 (isort (ltb ls) L) R [] w0 (by simpa using h) (by simp; omega) (by omega) (by omega) (by omega)
      simpa using this
    have y3 : ∀ w0, Sw w1 blk (isort (ltb ls) L ++ isort (ltb ls) R) w0 → Calls Tryd.prog 60 #[.slice (some ⟨blk, 0, none⟩) n cap, .int .i64 40, .int .i64 (n : Nat), cv Bc] w0 (UnitSw w1 blk (isort (ltb ls) L ++ isort (ltb ls) R)) := fun w0 h => by
      have := insertion_any w1 blk Bc Bm kk D ls c n cap 40 n (isort (ltb ls) L ++ isort (ltb ls) R) [] [] w0 (by simpa using h) (by simp; omega) (by simp; omega) (by simp; omega) (by omega)
      have e : isort (ltb ls) ([] : List ByteArray) = [] := rfl
      rw [e] at this
      simpa using this
    have y4 : ∀ w0, Sw w1 blk (isort (ltb ls) L ++ isort (ltb ls) R) w0 → Calls Tryd.prog 61 #[.slice (some ⟨blk, 0, none⟩) n cap, .int .i64 0, .int .i64 20, .int .i64 40, cv Bc] w0 (UnitSw w1 blk (isort (ltb ls) d)) := fun w0 h => z4 (by omega) 40 (by omega) w0 h
    have Y2 := Lib.hid y2
    have Y3 := Lib.hid y3
    have Y4 := Lib.hid y4
    clear z1 z2 z4 y2 y3 y4 hn hd lL lR il ir hfin sL sR
    go_enter Tryd.func56, Tryd.ntmps56
    go_wp2
    refine wp_loop_rounds 3 ?_
    rw [rounds_succ]
    go_wp2_with fail
    have hz := Z1.out _ h
    refine hz.mono ?_
    rintro e v1 ⟨rfl, q1⟩
    clear hz
    go_wp2_with fail
    rw [rounds_succ]
    go_wp2_with fail
    have hz := Y2.out _ q1
    refine hz.mono ?_
    rintro e v2 ⟨rfl, q2⟩
    clear hz
    go_wp2_with fail
    rw [rounds_succ]
    go_wp2_with fail
    have hz := Y3.out _ q2
    refine hz.mono ?_
    rintro e v3 ⟨rfl, q3⟩
    clear hz
    go_wp2
    refine wp_loop_rounds 2 ?_
    rw [rounds_succ]
    go_wp2
    refine wp_loop_rounds 2 ?_
    rw [rounds_succ]
    go_wp2_with fail
    have hz := Y4.out _ q3
    refine hz.mono ?_
    rintro e v4 ⟨rfl, q4⟩
    clear hz
    go_wp2_with fail
    rw [rounds_succ]
    go_wp2_with fail
    rw [rounds_succ]
    go_wp2
    go_end0
    exact ⟨rfl, q4⟩

theorem sortStable_any (w1 : World) (blk Bc Bm kk : Nat) (D : DataW Unit) (ls : List Lt) (c : Cx w1 blk Bc Bm kk D ls) (n cap : Nat) (d : List ByteArray) (W : World) (h : Sw w1 blk d W) (hn : d.length = n) (h40 : n ≤ 40) :
    Calls Tryd.prog 48 #[.slice (some ⟨blk, 0, none⟩) n cap, cv Bc] W (UnitSw w1 blk (isort (ltb ls) d)) := by
  have hz := stable_any w1 blk Bc Bm kk D ls c n cap d W h hn h40
  clear h hn
  go_enter Tryd.func48, Tryd.ntmps48
  go_wp2_with fail
  refine hz.mono ?_
  rintro e v1 ⟨rfl, q1⟩
  clear hz
  go_wp2
  go_end0
  exact ⟨rfl, q1⟩
end Go.Proofs.YtgnhkacndmdfgaaDoor
