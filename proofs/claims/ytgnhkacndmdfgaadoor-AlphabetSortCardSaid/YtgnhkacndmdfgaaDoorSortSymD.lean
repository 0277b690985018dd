/-
  symMerge of package slices: a row's two sorted parts are merged, equal strings of the first part first. Conditions: the row holds the strings, the comparison's map and the tables lie elsewhere; there are at most 1000 strings.
-/
import Derived.Test.YtgnhkacndmdfgaaDoorSortSymC
namespace Go.Proofs.YtgnhkacndmdfgaaDoor
open Go.RowKit
open AlphPlain SortPlain

set_option maxRecDepth 100000 in
set_option maxHeartbeats 16000000 in
theorem symC2_any (w1 : World) (blk Bc Bm kk : Nat) (D : DataW Unit) (ls : List Lt) (c : Cx w1 blk Bc Bm kk D ls) (n cap N : Nat) (ih : SymOK w1 blk Bc ls n cap N) (a m b mid : Nat) (P L R Q : List ByteArray) (W : World) (h : Sw w1 blk (P ++ (L ++ (R ++ Q))) W)
    (hN : L.length + R.length ≤ N + 1) (hNN : n = P.length + L.length + R.length + Q.length) (hA : a = P.length) (hMM : m = P.length + L.length) (hBB : b = P.length + L.length + R.length) (h1000 : n ≤ 1000) (hl2 : 2 ≤ L.length) (hr2 : 2 ≤ R.length) (hsL : Srt (ltb ls) L) (hsR : Srt (ltb ls) R)
    (hmid : mid = (a + b) / 2) (hmm : ¬ mid < m) :
    Calls Tryd.prog 61 #[.slice (some ⟨blk, 0, none⟩) n cap, .int .i64 (a : Nat), .int .i64 (m : Nat), .int .i64 (b : Nat), cv Bc] W (UnitSw w1 blk (P ++ (mg (ltb ls) L R ++ Q))) := by
  have mixed : Tryd.prog.follows .mixedOrders = true := by kernel_rfl
  obtain ⟨la, hla⟩ : ∃ k, k = L.length := ⟨_, rfl⟩
  obtain ⟨lb, hlb⟩ : ∃ k, k = R.length := ⟨_, rfl⟩
  obtain ⟨np, hnp⟩ : ∃ k, k = mid + m := ⟨_, rfl⟩
  obtain ⟨pp, hpp⟩ : ∃ k, k + 1 = mid + m := ⟨mid + m - 1, by omega⟩
  obtain ⟨s0, hs0⟩ : ∃ k, k = a := ⟨a, by omega⟩
  obtain ⟨r0, hr0⟩ : ∃ k, k = m := ⟨_, rfl⟩
  obtain ⟨d, hD⟩ : ∃ d, d = P ++ (L ++ (R ++ Q)) := ⟨_, rfl⟩
  rw [← hD] at h
  have hdl : d.length = n := by rw [hD]; simp only [List.length_append]; omega
  have hF : SymF (ltb ls) d a m b mid pp s0 r0 := by
    refine ⟨?_, ?_, by omega, by omega, by omega, hmid, hpp, .inr ⟨by omega, hs0, hr0⟩⟩
    · have := seg_srt (ltb_weak ls) (P := P) (Z := R ++ Q) hsL
      rw [← hD, ← hA, hA, ← hMM, ← hA] at this
      exact this
    · have := seg_srt (ltb_weak ls) (P := P ++ L) (Z := Q) hsR
      rw [List.append_assoc, ← hD, List.length_append, ← hMM] at this
      rw [show b = m + R.length by omega]
      exact this
  have e1 : (m : Int) - (a : Int) = ((la : Nat) : Int) := by omega
  have e1a : ¬ (la : Int) = 1 := by omega
  have e1b : ((la : Int) == 1) = false := by rw [beq_eq_false_iff_ne]; exact e1a
  have e1c : decide ((la : Int) = 1) = false := decide_eq_false e1a
  have e1d : decide (la = 1) = false := decide_eq_false (by omega)
  have e2 : (b : Int) - (m : Int) = ((lb : Nat) : Int) := by omega
  have e2a : ¬ (lb : Int) = 1 := by omega
  have e2b : ((lb : Int) == 1) = false := by rw [beq_eq_false_iff_ne]; exact e2a
  have e2c : decide ((lb : Int) = 1) = false := decide_eq_false e2a
  have e2d : decide (lb = 1) = false := decide_eq_false (by omega)
  have e3 : ((a : Int) + (b : Int)) / 2 = ((mid : Nat) : Int) := by omega
  have e4 : (mid : Int) + (m : Int) = ((np : Nat) : Int) := by omega
  have e5 : (np : Int) - 1 = ((pp : Nat) : Int) := by omega
  have e6 : ¬ (mid : Int) < (m : Int) := by omega
  have e6b : decide ((mid : Int) < (m : Int)) = false := decide_eq_false e6
  have b1 : a ≤ 1000 := by omega
  have b2 : b ≤ 1000 := by omega
  have b3 : m ≤ 1000 := by omega
  have b4 : mid ≤ 1000 := by omega
  have b5 : np ≤ 2000 := by omega
  have b6 : pp ≤ 2000 := by omega
  have HH := Lib.hid (show a < m ∧ m < b ∧ b ≤ n ∧ np = mid + m ∧ pp + 1 = np ∧ s0 = a ∧ r0 = m ∧ d.length = n from ⟨by omega, by omega, by omega, hnp, by omega, hs0, hr0, hdl⟩)
  have HP := Lib.hid (show n = P.length + L.length + R.length + Q.length ∧ a = P.length ∧ m = P.length + L.length ∧ b = P.length + L.length + R.length ∧ mid = (a + b) / 2 ∧ L.length + R.length ≤ N + 1 ∧ 2 ≤ L.length ∧ 2 ≤ R.length from ⟨hNN, hA, hMM, hBB, hmid, hN, hl2, hr2⟩)
  have HS := Lib.hid h
  have HD := Lib.hid hD
  have HIH := Lib.hid ih
  have HSL := Lib.hid hsL
  have HSR := Lib.hid hsR
  have HFF := Lib.hid hF
  clear h hNN hA hMM hBB hmid hla hlb hnp hpp hs0 hr0 hD hdl hN hl2 hr2 ih hsL hsR hF hmm
  go_enter Tryd.func61, Tryd.ntmps61
  go_wp2
  clear e1 e2 e3 e4 e5 
  go_loopw [20, 21] (fun sv rv wr => ∃ (st r : Nat), sv = .int .i64 (st : Nat) ∧ rv = .int .i64 (r : Nat) ∧ BinS (ltb ls) d pp s0 r0 st r ∧ Sw w1 blk d wr) (fun sv rv _ => (intOf rv).toNat - (intOf sv).toNat)
  case atStart => exact ⟨a, m, rfl, rfl, by have hh := HH.out; have hp := HP.out; exact ⟨by omega, by omega, by omega, fun c u v g1 g2 => by omega, fun c u v g1 g2 => by omega⟩, HS.out⟩
  case round =>
    clear HS
    obtain ⟨st, r, rfl, rfl, hB, hsw⟩ := hrel
    have hle := hB.l1
    by_cases hlt : st < r
    · have hlt' : (st : Int) < (r : Int) := by omega
      obtain ⟨cc, hcc⟩ : ∃ k, k = (st + r) / 2 := ⟨_, rfl⟩
      have e7 : ((st : Int) + (r : Int)) / 2 = ((cc : Nat) : Int) := by omega
      have h1 : st ≤ cc := by omega
      have h2 : cc < r := by omega
      have hF := HFF.out
      have hrg := hF.range (c := cc) (by have := hB.l0; omega) (by have := hB.l2; omega)
      obtain ⟨qq, hqq⟩ : ∃ k, k = pp - cc := ⟨_, rfl⟩
      have e8 : (pp : Int) - (cc : Int) = ((qq : Nat) : Int) := by omega
      have hh := HH.out
      obtain ⟨u, hu⟩ : ∃ u, d[qq]? = some u := ⟨_, List.getElem?_eq_getElem (by omega)⟩
      obtain ⟨v, hv⟩ : ∃ v, d[cc]? = some v := ⟨_, List.getElem?_eq_getElem (by omega)⟩
      have hcmp := c.cmp (d := d) u v
      have hKp : ∀ w', Sw w1 blk d w' → (Sw w1 blk d w' ∧ w'.cell? ⟨blk, qq, none⟩ = some (.string u) ∧ w'.cell? ⟨blk, cc, none⟩ = some (.string v)) := fun w' h => ⟨h, h.cells _ _ hu, h.cells _ _ hv⟩
      have HUP := Lib.hid (fun hl => hB.up (ltb_weak ls) hF (c := cc) (u := u) (v := v) h1 h2 (by rw [← hqq]; exact hu) hv hl)
      have HDN := Lib.hid (fun hl => hB.down (ltb_weak ls) hF (c := cc) (u := u) (v := v) h1 h2 (by rw [← hqq]; exact hu) hv hl)
      have g1 : (0 : Int) ≤ (qq : Int) := by omega
      have g2 : (qq : Int) < (n : Int) := by omega
      have g3 : (0 : Int) ≤ (cc : Int) := by omega
      have g4 : (cc : Int) < (n : Int) := by omega
      have g5 : cc ≤ 1000 := by omega
      have g7 : IntKind.i64.wrap (qq : Int) = (qq : Int) := wrap_small _ (by omega) (by omega)
      have g6 : r ≤ 1000 := by have := hB.l2; omega
      clear hu hv hcc hqq hB hF hrg hh
      cases hl : ltb ls u v
      · have hc : ¬ cmpL ls u v < 0 := of_decide_eq_false hl
        generalize cmpL ls u v = C at *
        have hc1 : 0 ≤ C := by omega
        have hc2 : decide (C < 0) = false := decide_eq_false hc
        have hc3 : decide (0 ≤ C) = true := decide_eq_true hc1
        go_wp2
        refine wp_region_held_drew (S := fun w' => Sw w1 blk d w' ∧ w'.cell? ⟨blk, qq, none⟩ = some (.string u) ∧ w'.cell? ⟨blk, cc, none⟩ = some (.string v)) (by kernel_rfl) (by first | exact hKp _ (by assumption) | exact hKp _ (Sw.drew (by assumption))) (fun hHeld => ?_)
        refine take_on (i := 0) (v := ?v29) rfl (by kernel_rfl) (by kernel_rfl) (by kernel_rfl) (fun _ _ _ h => h) (by rfl) (by assumption) ?y29 ?_
        case y29 => (intro w hSw; (try dsimp only at hSw); go_simp; (try with_reducible rfl))
        try simp only [Act.put, List.setIfInBounds_toArray, List.set_cons_zero, List.set_cons_succ]
        refine take_on (i := 1) (v := ?v30) rfl (by kernel_rfl) (by kernel_rfl) (by kernel_rfl) (fun _ _ _ h => h) (by rfl) (by assumption) ?y30 ?_
        case y30 => (intro w hSw; (try dsimp only at hSw); go_simp; (try with_reducible rfl))
        try simp only [Act.put, List.setIfInBounds_toArray, List.set_cons_zero, List.set_cons_succ]
        refine take_on (i := 2) (v := ?v31) rfl (by kernel_rfl) (by kernel_rfl) (by kernel_rfl) (fun _ _ _ h => h) (by rfl) (by assumption) ?y31 ?_
        case y31 => (intro w hSw; (try dsimp only at hSw); go_simp; (try with_reducible rfl))
        try simp only [Act.put, List.setIfInBounds_toArray, List.set_cons_zero, List.set_cons_succ]
        refine take_on (i := 3) (v := ?v32) rfl (by kernel_rfl) (by kernel_rfl) (by kernel_rfl) (fun _ _ _ h => h) (by rfl) (by assumption) ?y32 ?_
        case y32 => (intro w hSw; (try dsimp only at hSw); go_simp; (try with_reducible rfl))
        try simp only [Act.put, List.setIfInBounds_toArray, List.set_cons_zero, List.set_cons_succ]
        refine take_on (i := 4) (v := ?v33) rfl (by kernel_rfl) (by kernel_rfl) (by kernel_rfl) (fun _ _ _ h => h) (by rfl) (by assumption) ?y33 ?_
        case y33 => (intro w hSw; (try dsimp only at hSw); go_simp; (try with_reducible rfl))
        try simp only [Act.put, List.setIfInBounds_toArray, List.set_cons_zero, List.set_cons_succ]
        refine take_on (i := 5) (v := ?v34) rfl (by kernel_rfl) (by kernel_rfl) (by kernel_rfl) (fun _ _ _ h => h) (by rfl) (by assumption) ?y34 ?_
        case y34 => (intro w hSw; (try dsimp only at hSw); go_simp; (try with_reducible rfl))
        try simp only [Act.put, List.setIfInBounds_toArray, List.set_cons_zero, List.set_cons_succ]
        refine take_on (i := 6) (v := ?v35) rfl (by kernel_rfl) (by kernel_rfl) (by kernel_rfl) (fun _ _ _ h => h) (by rfl) (by assumption) ?y35 ?_
        case y35 => (intro w hSw; (try dsimp only at hSw); go_simp; (try with_reducible rfl))
        try simp only [Act.put, List.setIfInBounds_toArray, List.set_cons_zero, List.set_cons_succ]
        refine take_on (i := 7) (v := ?v36) rfl (by kernel_rfl) (by kernel_rfl) (by kernel_rfl) (fun _ _ _ h => h) (by rfl) (by assumption) ?y36 ?_
        case y36 => (intro w hSw; (try dsimp only at hSw); go_simp; (try with_reducible rfl))
        try simp only [Act.put, List.setIfInBounds_toArray, List.set_cons_zero, List.set_cons_succ]
        refine take_on (i := 8) (v := ?v37) rfl (by kernel_rfl) (by kernel_rfl) (by kernel_rfl) (fun _ _ _ h => h) (by rfl) (by assumption) ?y37 ?_
        case y37 => (intro w hSw; (try dsimp only at hSw); go_simp; (try with_reducible rfl))
        try simp only [Act.put, List.setIfInBounds_toArray, List.set_cons_zero, List.set_cons_succ]
        refine take_on (i := 9) (v := ?v38) rfl (by kernel_rfl) (by kernel_rfl) (by kernel_rfl) (fun _ _ _ h => h) (by rfl) (by assumption) ?y38 ?_
        case y38 => (intro w hSw; (try dsimp only at hSw); go_simp; (try with_reducible rfl))
        try simp only [Act.put, List.setIfInBounds_toArray, List.set_cons_zero, List.set_cons_succ]
        refine take_on (i := 10) (v := ?v39) rfl (by kernel_rfl) (by kernel_rfl) (by kernel_rfl) (fun _ _ _ h => h) (by rfl) (by assumption) ?y39 ?_
        case y39 => (intro w hSw; (try dsimp only at hSw); go_simp; (try with_reducible rfl))
        try simp only [Act.put, List.setIfInBounds_toArray, List.set_cons_zero, List.set_cons_succ]
        refine one_ready (i := 11) rfl (by kernel_rfl) (by rfl) (fun K hK => ?_)
        go_simp
        refine (hcmp _ hHeld.1).mono ?_
        rintro e w' ⟨rfl, N⟩
        try go_simp
        refine hK.out _ _ (by first | exact hKp _ (by assumption) | exact hKp _ (Sw.drew (by assumption))) (fun hHeld => ?_)
        clear hK K
        try simp only [Act.put, List.setIfInBounds_toArray, List.set_cons_zero, List.set_cons_succ]
        refine take_on (i := 12) (v := ?v41) rfl (by kernel_rfl) (by kernel_rfl) (by kernel_rfl) (fun _ _ _ h => h) (by rfl) (by assumption) ?y41 ?_
        case y41 => (intro w hSw; (try dsimp only at hSw); go_simp; (try with_reducible rfl))
        try simp only [Act.put, List.setIfInBounds_toArray, List.set_cons_zero, List.set_cons_succ]
        refine take_on (i := 13) (v := ?v42) rfl (by kernel_rfl) (by kernel_rfl) (by kernel_rfl) (fun _ _ _ h => h) (by rfl) (by assumption) ?y42 ?_
        case y42 => (intro w hSw; (try dsimp only at hSw); go_simp; (try with_reducible rfl))
        try simp only [Act.put, List.setIfInBounds_toArray, List.set_cons_zero, List.set_cons_succ]
        refine wpAnyH_done (by kernel_rfl) ?_ _
        go_wp2
        go_roundw
        case rel => exact ⟨cc + 1, r, by go_num, rfl, HUP.out hl, hHeld.1⟩
        case measure => simp [intOf]; omega
      · have hc : cmpL ls u v < 0 := of_decide_eq_true hl
        generalize cmpL ls u v = C at *
        have hc1 : ¬ 0 ≤ C := by omega
        have hc2 : decide (C < 0) = true := decide_eq_true hc
        have hc3 : decide (0 ≤ C) = false := decide_eq_false hc1
        go_wp2
        refine wp_region_held_drew (S := fun w' => Sw w1 blk d w' ∧ w'.cell? ⟨blk, qq, none⟩ = some (.string u) ∧ w'.cell? ⟨blk, cc, none⟩ = some (.string v)) (by kernel_rfl) (by first | exact hKp _ (by assumption) | exact hKp _ (Sw.drew (by assumption))) (fun hHeld => ?_)
        refine take_on (i := 0) (v := ?v43) rfl (by kernel_rfl) (by kernel_rfl) (by kernel_rfl) (fun _ _ _ h => h) (by rfl) (by assumption) ?y43 ?_
        case y43 => (intro w hSw; (try dsimp only at hSw); go_simp; (try with_reducible rfl))
        try simp only [Act.put, List.setIfInBounds_toArray, List.set_cons_zero, List.set_cons_succ]
        refine take_on (i := 1) (v := ?v44) rfl (by kernel_rfl) (by kernel_rfl) (by kernel_rfl) (fun _ _ _ h => h) (by rfl) (by assumption) ?y44 ?_
        case y44 => (intro w hSw; (try dsimp only at hSw); go_simp; (try with_reducible rfl))
        try simp only [Act.put, List.setIfInBounds_toArray, List.set_cons_zero, List.set_cons_succ]
        refine take_on (i := 2) (v := ?v45) rfl (by kernel_rfl) (by kernel_rfl) (by kernel_rfl) (fun _ _ _ h => h) (by rfl) (by assumption) ?y45 ?_
        case y45 => (intro w hSw; (try dsimp only at hSw); go_simp; (try with_reducible rfl))
        try simp only [Act.put, List.setIfInBounds_toArray, List.set_cons_zero, List.set_cons_succ]
        refine take_on (i := 3) (v := ?v46) rfl (by kernel_rfl) (by kernel_rfl) (by kernel_rfl) (fun _ _ _ h => h) (by rfl) (by assumption) ?y46 ?_
        case y46 => (intro w hSw; (try dsimp only at hSw); go_simp; (try with_reducible rfl))
        try simp only [Act.put, List.setIfInBounds_toArray, List.set_cons_zero, List.set_cons_succ]
        refine take_on (i := 4) (v := ?v47) rfl (by kernel_rfl) (by kernel_rfl) (by kernel_rfl) (fun _ _ _ h => h) (by rfl) (by assumption) ?y47 ?_
        case y47 => (intro w hSw; (try dsimp only at hSw); go_simp; (try with_reducible rfl))
        try simp only [Act.put, List.setIfInBounds_toArray, List.set_cons_zero, List.set_cons_succ]
        refine take_on (i := 5) (v := ?v48) rfl (by kernel_rfl) (by kernel_rfl) (by kernel_rfl) (fun _ _ _ h => h) (by rfl) (by assumption) ?y48 ?_
        case y48 => (intro w hSw; (try dsimp only at hSw); go_simp; (try with_reducible rfl))
        try simp only [Act.put, List.setIfInBounds_toArray, List.set_cons_zero, List.set_cons_succ]
        refine take_on (i := 6) (v := ?v49) rfl (by kernel_rfl) (by kernel_rfl) (by kernel_rfl) (fun _ _ _ h => h) (by rfl) (by assumption) ?y49 ?_
        case y49 => (intro w hSw; (try dsimp only at hSw); go_simp; (try with_reducible rfl))
        try simp only [Act.put, List.setIfInBounds_toArray, List.set_cons_zero, List.set_cons_succ]
        refine take_on (i := 7) (v := ?v50) rfl (by kernel_rfl) (by kernel_rfl) (by kernel_rfl) (fun _ _ _ h => h) (by rfl) (by assumption) ?y50 ?_
        case y50 => (intro w hSw; (try dsimp only at hSw); go_simp; (try with_reducible rfl))
        try simp only [Act.put, List.setIfInBounds_toArray, List.set_cons_zero, List.set_cons_succ]
        refine take_on (i := 8) (v := ?v51) rfl (by kernel_rfl) (by kernel_rfl) (by kernel_rfl) (fun _ _ _ h => h) (by rfl) (by assumption) ?y51 ?_
        case y51 => (intro w hSw; (try dsimp only at hSw); go_simp; (try with_reducible rfl))
        try simp only [Act.put, List.setIfInBounds_toArray, List.set_cons_zero, List.set_cons_succ]
        refine take_on (i := 9) (v := ?v52) rfl (by kernel_rfl) (by kernel_rfl) (by kernel_rfl) (fun _ _ _ h => h) (by rfl) (by assumption) ?y52 ?_
        case y52 => (intro w hSw; (try dsimp only at hSw); go_simp; (try with_reducible rfl))
        try simp only [Act.put, List.setIfInBounds_toArray, List.set_cons_zero, List.set_cons_succ]
        refine take_on (i := 10) (v := ?v53) rfl (by kernel_rfl) (by kernel_rfl) (by kernel_rfl) (fun _ _ _ h => h) (by rfl) (by assumption) ?y53 ?_
        case y53 => (intro w hSw; (try dsimp only at hSw); go_simp; (try with_reducible rfl))
        try simp only [Act.put, List.setIfInBounds_toArray, List.set_cons_zero, List.set_cons_succ]
        refine one_ready (i := 11) rfl (by kernel_rfl) (by rfl) (fun K hK => ?_)
        go_simp
        refine (hcmp _ hHeld.1).mono ?_
        rintro e w' ⟨rfl, N⟩
        try go_simp
        refine hK.out _ _ (by first | exact hKp _ (by assumption) | exact hKp _ (Sw.drew (by assumption))) (fun hHeld => ?_)
        clear hK K
        try simp only [Act.put, List.setIfInBounds_toArray, List.set_cons_zero, List.set_cons_succ]
        refine take_on (i := 12) (v := ?v55) rfl (by kernel_rfl) (by kernel_rfl) (by kernel_rfl) (fun _ _ _ h => h) (by rfl) (by assumption) ?y55 ?_
        case y55 => (intro w hSw; (try dsimp only at hSw); go_simp; (try with_reducible rfl))
        try simp only [Act.put, List.setIfInBounds_toArray, List.set_cons_zero, List.set_cons_succ]
        refine take_on (i := 13) (v := ?v56) rfl (by kernel_rfl) (by kernel_rfl) (by kernel_rfl) (fun _ _ _ h => h) (by rfl) (by assumption) ?y56 ?_
        case y56 => (intro w hSw; (try dsimp only at hSw); go_simp; (try with_reducible rfl))
        try simp only [Act.put, List.setIfInBounds_toArray, List.set_cons_zero, List.set_cons_succ]
        refine wpAnyH_done (by kernel_rfl) ?_ _
        go_wp2
        go_roundw
        case rel => exact ⟨st, cc, rfl, rfl, HDN.out hl, hHeld.1⟩
        case measure => simp [intOf]; omega
    · have hlt' : ¬ (st : Int) < (r : Int) := by omega
      obtain rfl : st = r := by omega
      have hh := HH.out
      have ih := HIH.out
      have hD := HD.out
      have hF := HFF.out
      obtain ⟨hNN, hA, hMM, hBB, hmid, hN, hl2, hr2⟩ := HP.out
      have hr0 := hB.l2
      have hs0 := hB.l0
      have hstm : st ≤ mid + m := by omega
      obtain ⟨ee, hee⟩ : ∃ k, k + st = mid + m := ⟨mid + m - st, by omega⟩
      have e9 : (np : Int) - (st : Int) = ((ee : Nat) : Int) := by omega
      obtain ⟨L1, L2, R1, R2, hL12, hR12, l1, l2, l3, l4, hmg⟩ := sym_split (ltb_weak ls) hD hA (by omega) (by omega) hF hB hee
      have hll : L.length = L1.length + L2.length := by rw [hL12, List.length_append]
      have hrl : R.length = R1.length + R2.length := by rw [hR12, List.length_append]
      have hsL := HSL.out
      have hsR := HSR.out
      rw [hL12] at hsL
      rw [hR12] at hsR
      have hs1 : Srt (ltb ls) L1 := (List.pairwise_append.1 hsL).1
      have hs2 : Srt (ltb ls) L2 := (List.pairwise_append.1 hsL).2.1
      have hs3 : Srt (ltb ls) R1 := (List.pairwise_append.1 hsR).1
      have hs4 : Srt (ltb ls) R2 := (List.pairwise_append.1 hsR).2.1
      have hml : (mg (ltb ls) L1 R1).length = L1.length + R1.length := mg_len _ _ _ (Nat.le_refl _)
      have hfin : P ++ (mg (ltb ls) L R ++ Q) = P ++ (mg (ltb ls) L1 R1 ++ (mg (ltb ls) L2 R2 ++ Q)) := by rw [hmg]; simp [List.append_assoc]
      have f1 : st ≤ 1000 := by omega
      have f2 : ee ≤ 1000 := by omega
      have zr : 0 < L2.length → 0 < R1.length := by omega
      clear hB hF hsL hsR hh HIH HD HFF HP HH HSL HSR
      by_cases z2 : L2.length = 0
      · by_cases z3 : R1.length = 0
        · have t1 : ¬ (st : Int) < (m : Int) := by omega
          have t2 : ¬ (m : Int) < (ee : Int) := by omega
          have t3 : (a : Int) < (st : Int) := by omega
          have t4 : ¬ (st : Int) < (mid : Int) := by omega
          have t5 : ¬ (mid : Int) < (ee : Int) := by omega
          have t6 : (ee : Int) < (b : Int) := by omega
          have hd1 : d = P ++ (L1 ++ (R1 ++ (L2 ++ (R2 ++ Q)))) := by rw [hD, hL12, hR12, nil_of z2]; simp [List.append_assoc]
          have hd2 : P ++ (L1 ++ (R1 ++ (L2 ++ (R2 ++ Q)))) = P ++ (mg (ltb ls) L1 R1 ++ (L2 ++ (R2 ++ Q))) := by rw [mg_flat (A := L1) (B := R1) (.inr z3)]; simp [List.append_assoc]
          have hd3 : P ++ (mg (ltb ls) L1 R1 ++ (L2 ++ (R2 ++ Q))) = P ++ (mg (ltb ls) L1 R1 ++ (mg (ltb ls) L2 R2 ++ Q)) := by rw [mg_flat (A := L2) (B := R2) (.inl z2)]; simp [List.append_assoc]
          rw [hd1] at hsw
          rw [hd2] at hsw
          rw [hd3] at hsw
          have HD1 := Lib.hid hd1
          clear hd1
          have HD2 := Lib.hid hd2
          clear hd2
          have HD3 := Lib.hid hd3
          clear hd3
          have HL12 := Lib.hid hL12
          have HR12 := Lib.hid hR12
          have HF := Lib.hid hfin
          have HDD := Lib.hid hD
          clear hL12 hR12 hfin hD hmg hml l1 l2 l3 l4 hee hll hrl hr0 hs0 hstm hmid hl2 hr2 z2 z3 hA hMM hBB hNN ih hs1 hs2 hs3 hs4 hN
          go_wp2
          go_end0
          exact ⟨rfl, by rw [HF.out]; exact hsw⟩
        · have t1 : ¬ (st : Int) < (m : Int) := by omega
          have t2 : (m : Int) < (ee : Int) := by omega
          have t3 : (a : Int) < (st : Int) := by omega
          have t4 : (st : Int) < (mid : Int) := by omega
          have t5 : ¬ (mid : Int) < (ee : Int) := by omega
          have t6 : (ee : Int) < (b : Int) := by omega
          have hd1 : d = P ++ (L1 ++ (R1 ++ (L2 ++ (R2 ++ Q)))) := by rw [hD, hL12, hR12, nil_of z2]; simp [List.append_assoc]
          have h1 : ∀ w0, Sw w1 blk (P ++ (L1 ++ (R1 ++ (L2 ++ (R2 ++ Q))))) w0 → Calls Tryd.prog 61 #[.slice (some ⟨blk, 0, none⟩) n cap, .int .i64 (a : Nat), .int .i64 (st : Nat), .int .i64 (mid : Nat), cv Bc] w0 (UnitSw w1 blk (P ++ (mg (ltb ls) L1 R1 ++ (L2 ++ (R2 ++ Q))))) := fun w0 h => ih a st mid P L1 R1 (L2 ++ (R2 ++ Q)) w0 (by omega) (by omega) (by omega) hs1 hs3 h (by simp only [List.length_append]; omega) hA (by omega) (by omega)
          have hd3 : P ++ (mg (ltb ls) L1 R1 ++ (L2 ++ (R2 ++ Q))) = P ++ (mg (ltb ls) L1 R1 ++ (mg (ltb ls) L2 R2 ++ Q)) := by rw [mg_flat (A := L2) (B := R2) (.inl z2)]; simp [List.append_assoc]
          rw [hd1] at hsw
          have HD1 := Lib.hid hd1
          clear hd1
          have HD3 := Lib.hid hd3
          clear hd3
          have h1' := Lib.hid h1
          clear h1
          have HL12 := Lib.hid hL12
          have HR12 := Lib.hid hR12
          have HF := Lib.hid hfin
          have HDD := Lib.hid hD
          clear hL12 hR12 hfin hD hmg hml l1 l2 l3 l4 hee hll hrl hr0 hs0 hstm hmid hl2 hr2 z2 hA hMM hBB hNN ih hs1 hs2 hs3 hs4 hN
          go_wp2_with fail
          have hz := h1'.out _ hsw
          refine hz.mono ?_
          rintro e v2 ⟨rfl, q2⟩
          clear hz h1'
          rw [HD3.out] at q2
          go_wp2
          go_end0
          exact ⟨rfl, by rw [HF.out]; exact q2⟩
      · have z3 : 0 < R1.length := zr (by omega)
        by_cases z1 : L1.length = 0
        · by_cases z4 : R2.length = 0
          · have t1 : (st : Int) < (m : Int) := by omega
            have t2 : (m : Int) < (ee : Int) := by omega
            have t3 : ¬ (a : Int) < (st : Int) := by omega
            have t4 : (st : Int) < (mid : Int) := by omega
            have t5 : (mid : Int) < (ee : Int) := by omega
            have t6 : ¬ (ee : Int) < (b : Int) := by omega
            have hR : ∀ w0, Sw w1 blk d w0 → Calls Tryd.prog 63 #[.slice (some ⟨blk, 0, none⟩) n cap, .int .i64 (st : Nat), .int .i64 (m : Nat), .int .i64 (ee : Nat), cv Bc] w0 (UnitSw w1 blk (P ++ (L1 ++ (R1 ++ (L2 ++ (R2 ++ Q)))))) := fun w0 h => by
                have hr := rotate_any w1 blk n cap st m ee (P ++ L1) L2 R1 (R2 ++ Q) (cv Bc) w0 (by rw [hD, hL12, hR12] at h; simpa [List.append_assoc] using h) (by simp only [List.length_append]; omega) (by rw [List.length_append]; omega) (by rw [List.length_append]; omega) (by rw [List.length_append]; omega) h1000 (by omega) (by omega)
                simpa [List.append_assoc] using hr
            have hd2 : P ++ (L1 ++ (R1 ++ (L2 ++ (R2 ++ Q)))) = P ++ (mg (ltb ls) L1 R1 ++ (L2 ++ (R2 ++ Q))) := by rw [mg_flat (A := L1) (B := R1) (.inl z1)]; simp [List.append_assoc]
            have hd3 : P ++ (mg (ltb ls) L1 R1 ++ (L2 ++ (R2 ++ Q))) = P ++ (mg (ltb ls) L1 R1 ++ (mg (ltb ls) L2 R2 ++ Q)) := by rw [mg_flat (A := L2) (B := R2) (.inr z4)]; simp [List.append_assoc]
            have HD2 := Lib.hid hd2
            clear hd2
            have HD3 := Lib.hid hd3
            clear hd3
            have hR' := Lib.hid hR
            clear hR
            have HL12 := Lib.hid hL12
            have HR12 := Lib.hid hR12
            have HF := Lib.hid hfin
            have HDD := Lib.hid hD
            clear hL12 hR12 hfin hD hmg hml l1 l2 l3 l4 hee hll hrl hr0 hs0 hstm hmid hl2 hr2 z1 z4 hA hMM hBB hNN ih hs1 hs2 hs3 hs4 hN
            go_wp2_with fail
            have hz := hR'.out _ hsw
            refine hz.mono ?_
            rintro e v2 ⟨rfl, q2⟩
            clear hz hR'
            rw [HD2.out] at q2
            rw [HD3.out] at q2
            go_wp2
            go_end0
            exact ⟨rfl, by rw [HF.out]; exact q2⟩
          · have t1 : (st : Int) < (m : Int) := by omega
            have t2 : (m : Int) < (ee : Int) := by omega
            have t3 : ¬ (a : Int) < (st : Int) := by omega
            have t4 : (st : Int) < (mid : Int) := by omega
            have t5 : (mid : Int) < (ee : Int) := by omega
            have t6 : (ee : Int) < (b : Int) := by omega
            have hR : ∀ w0, Sw w1 blk d w0 → Calls Tryd.prog 63 #[.slice (some ⟨blk, 0, none⟩) n cap, .int .i64 (st : Nat), .int .i64 (m : Nat), .int .i64 (ee : Nat), cv Bc] w0 (UnitSw w1 blk (P ++ (L1 ++ (R1 ++ (L2 ++ (R2 ++ Q)))))) := fun w0 h => by
                have hr := rotate_any w1 blk n cap st m ee (P ++ L1) L2 R1 (R2 ++ Q) (cv Bc) w0 (by rw [hD, hL12, hR12] at h; simpa [List.append_assoc] using h) (by simp only [List.length_append]; omega) (by rw [List.length_append]; omega) (by rw [List.length_append]; omega) (by rw [List.length_append]; omega) h1000 (by omega) (by omega)
                simpa [List.append_assoc] using hr
            have hd2 : P ++ (L1 ++ (R1 ++ (L2 ++ (R2 ++ Q)))) = P ++ (mg (ltb ls) L1 R1 ++ (L2 ++ (R2 ++ Q))) := by rw [mg_flat (A := L1) (B := R1) (.inl z1)]; simp [List.append_assoc]
            have h2 : ∀ w0, Sw w1 blk (P ++ (mg (ltb ls) L1 R1 ++ (L2 ++ (R2 ++ Q)))) w0 → Calls Tryd.prog 61 #[.slice (some ⟨blk, 0, none⟩) n cap, .int .i64 (mid : Nat), .int .i64 (ee : Nat), .int .i64 (b : Nat), cv Bc] w0 (UnitSw w1 blk (P ++ (mg (ltb ls) L1 R1 ++ (mg (ltb ls) L2 R2 ++ Q)))) := fun w0 h => by
                have hr := ih mid ee b (P ++ mg (ltb ls) L1 R1) L2 R2 Q w0 (by omega) (by omega) (by omega) hs2 hs4 (by simpa [List.append_assoc] using h) (by rw [List.length_append, hml]; omega) (by rw [List.length_append, hml]; omega) (by rw [List.length_append, hml]; omega) (by rw [List.length_append, hml]; omega)
                simpa [List.append_assoc] using hr
            have HD2 := Lib.hid hd2
            clear hd2
            have hR' := Lib.hid hR
            clear hR
            have h2' := Lib.hid h2
            clear h2
            have HL12 := Lib.hid hL12
            have HR12 := Lib.hid hR12
            have HF := Lib.hid hfin
            have HDD := Lib.hid hD
            clear hL12 hR12 hfin hD hmg hml l1 l2 l3 l4 hee hll hrl hr0 hs0 hstm hmid hl2 hr2 z1 hA hMM hBB hNN ih hs1 hs2 hs3 hs4 hN
            go_wp2_with fail
            have hz := hR'.out _ hsw
            refine hz.mono ?_
            rintro e v2 ⟨rfl, q2⟩
            clear hz hR'
            rw [HD2.out] at q2
            go_wp2_with fail
            have hz := h2'.out _ q2
            refine hz.mono ?_
            rintro e v3 ⟨rfl, q3⟩
            clear hz h2'
            go_wp2
            go_end0
            exact ⟨rfl, by rw [HF.out]; exact q3⟩
        · by_cases z4 : R2.length = 0
          · have t1 : (st : Int) < (m : Int) := by omega
            have t2 : (m : Int) < (ee : Int) := by omega
            have t3 : (a : Int) < (st : Int) := by omega
            have t4 : (st : Int) < (mid : Int) := by omega
            have t5 : (mid : Int) < (ee : Int) := by omega
            have t6 : ¬ (ee : Int) < (b : Int) := by omega
            have hR : ∀ w0, Sw w1 blk d w0 → Calls Tryd.prog 63 #[.slice (some ⟨blk, 0, none⟩) n cap, .int .i64 (st : Nat), .int .i64 (m : Nat), .int .i64 (ee : Nat), cv Bc] w0 (UnitSw w1 blk (P ++ (L1 ++ (R1 ++ (L2 ++ (R2 ++ Q)))))) := fun w0 h => by
                have hr := rotate_any w1 blk n cap st m ee (P ++ L1) L2 R1 (R2 ++ Q) (cv Bc) w0 (by rw [hD, hL12, hR12] at h; simpa [List.append_assoc] using h) (by simp only [List.length_append]; omega) (by rw [List.length_append]; omega) (by rw [List.length_append]; omega) (by rw [List.length_append]; omega) h1000 (by omega) (by omega)
                simpa [List.append_assoc] using hr
            have h1 : ∀ w0, Sw w1 blk (P ++ (L1 ++ (R1 ++ (L2 ++ (R2 ++ Q))))) w0 → Calls Tryd.prog 61 #[.slice (some ⟨blk, 0, none⟩) n cap, .int .i64 (a : Nat), .int .i64 (st : Nat), .int .i64 (mid : Nat), cv Bc] w0 (UnitSw w1 blk (P ++ (mg (ltb ls) L1 R1 ++ (L2 ++ (R2 ++ Q))))) := fun w0 h => ih a st mid P L1 R1 (L2 ++ (R2 ++ Q)) w0 (by omega) (by omega) (by omega) hs1 hs3 h (by simp only [List.length_append]; omega) hA (by omega) (by omega)
            have hd3 : P ++ (mg (ltb ls) L1 R1 ++ (L2 ++ (R2 ++ Q))) = P ++ (mg (ltb ls) L1 R1 ++ (mg (ltb ls) L2 R2 ++ Q)) := by rw [mg_flat (A := L2) (B := R2) (.inr z4)]; simp [List.append_assoc]
            have HD3 := Lib.hid hd3
            clear hd3
            have hR' := Lib.hid hR
            clear hR
            have h1' := Lib.hid h1
            clear h1
            have HL12 := Lib.hid hL12
            have HR12 := Lib.hid hR12
            have HF := Lib.hid hfin
            have HDD := Lib.hid hD
            clear hL12 hR12 hfin hD hmg hml l1 l2 l3 l4 hee hll hrl hr0 hs0 hstm hmid hl2 hr2 z4 hA hMM hBB hNN ih hs1 hs2 hs3 hs4 hN
            go_wp2_with fail
            have hz := hR'.out _ hsw
            refine hz.mono ?_
            rintro e v2 ⟨rfl, q2⟩
            clear hz hR'
            go_wp2_with fail
            have hz := h1'.out _ q2
            refine hz.mono ?_
            rintro e v3 ⟨rfl, q3⟩
            clear hz h1'
            rw [HD3.out] at q3
            go_wp2
            go_end0
            exact ⟨rfl, by rw [HF.out]; exact q3⟩
          · have t1 : (st : Int) < (m : Int) := by omega
            have t2 : (m : Int) < (ee : Int) := by omega
            have t3 : (a : Int) < (st : Int) := by omega
            have t4 : (st : Int) < (mid : Int) := by omega
            have t5 : (mid : Int) < (ee : Int) := by omega
            have t6 : (ee : Int) < (b : Int) := by omega
            have hR : ∀ w0, Sw w1 blk d w0 → Calls Tryd.prog 63 #[.slice (some ⟨blk, 0, none⟩) n cap, .int .i64 (st : Nat), .int .i64 (m : Nat), .int .i64 (ee : Nat), cv Bc] w0 (UnitSw w1 blk (P ++ (L1 ++ (R1 ++ (L2 ++ (R2 ++ Q)))))) := fun w0 h => by
                have hr := rotate_any w1 blk n cap st m ee (P ++ L1) L2 R1 (R2 ++ Q) (cv Bc) w0 (by rw [hD, hL12, hR12] at h; simpa [List.append_assoc] using h) (by simp only [List.length_append]; omega) (by rw [List.length_append]; omega) (by rw [List.length_append]; omega) (by rw [List.length_append]; omega) h1000 (by omega) (by omega)
                simpa [List.append_assoc] using hr
            have h1 : ∀ w0, Sw w1 blk (P ++ (L1 ++ (R1 ++ (L2 ++ (R2 ++ Q))))) w0 → Calls Tryd.prog 61 #[.slice (some ⟨blk, 0, none⟩) n cap, .int .i64 (a : Nat), .int .i64 (st : Nat), .int .i64 (mid : Nat), cv Bc] w0 (UnitSw w1 blk (P ++ (mg (ltb ls) L1 R1 ++ (L2 ++ (R2 ++ Q))))) := fun w0 h => ih a st mid P L1 R1 (L2 ++ (R2 ++ Q)) w0 (by omega) (by omega) (by omega) hs1 hs3 h (by simp only [List.length_append]; omega) hA (by omega) (by omega)
            have h2 : ∀ w0, Sw w1 blk (P ++ (mg (ltb ls) L1 R1 ++ (L2 ++ (R2 ++ Q)))) w0 → Calls Tryd.prog 61 #[.slice (some ⟨blk, 0, none⟩) n cap, .int .i64 (mid : Nat), .int .i64 (ee : Nat), .int .i64 (b : Nat), cv Bc] w0 (UnitSw w1 blk (P ++ (mg (ltb ls) L1 R1 ++ (mg (ltb ls) L2 R2 ++ Q)))) := fun w0 h => by
                have hr := ih mid ee b (P ++ mg (ltb ls) L1 R1) L2 R2 Q w0 (by omega) (by omega) (by omega) hs2 hs4 (by simpa [List.append_assoc] using h) (by rw [List.length_append, hml]; omega) (by rw [List.length_append, hml]; omega) (by rw [List.length_append, hml]; omega) (by rw [List.length_append, hml]; omega)
                simpa [List.append_assoc] using hr
            have hR' := Lib.hid hR
            clear hR
            have h1' := Lib.hid h1
            clear h1
            have h2' := Lib.hid h2
            clear h2
            have HL12 := Lib.hid hL12
            have HR12 := Lib.hid hR12
            have HF := Lib.hid hfin
            have HDD := Lib.hid hD
            clear hL12 hR12 hfin hD hmg hml l1 l2 l3 l4 hee hll hrl hr0 hs0 hstm hmid hl2 hr2  hA hMM hBB hNN ih hs1 hs2 hs3 hs4 hN
            go_wp2_with fail
            have hz := hR'.out _ hsw
            refine hz.mono ?_
            rintro e v2 ⟨rfl, q2⟩
            clear hz hR'
            go_wp2_with fail
            have hz := h1'.out _ q2
            refine hz.mono ?_
            rintro e v3 ⟨rfl, q3⟩
            clear hz h1'
            go_wp2_with fail
            have hz := h2'.out _ q3
            refine hz.mono ?_
            rintro e v4 ⟨rfl, q4⟩
            clear hz h2'
            go_wp2
            go_end0
            exact ⟨rfl, by rw [HF.out]; exact q4⟩

theorem sym_any (w1 : World) (blk Bc Bm kk : Nat) (D : DataW Unit) (ls : List Lt) (c : Cx w1 blk Bc Bm kk D ls) (n cap : Nat) (h1000 : n ≤ 1000) : ∀ N, SymOK w1 blk Bc ls n cap N
  | 0 => fun a m b P L R Q W hN hL hR => by omega
  | N + 1 => fun a m b P L R Q W hN hL hR hsL hsR h hn ha hm hb => by
    by_cases l1 : L.length = 1
    · obtain ⟨x, rfl⟩ := List.length_eq_one_iff.1 l1
      exact symA_any w1 blk Bc Bm kk D ls c n cap a m b P R Q x W h (by simpa using hn) ha (by simpa using hm) (by simpa using hb) h1000 hsR
    by_cases r1 : R.length = 1
    · obtain ⟨y, rfl⟩ := List.length_eq_one_iff.1 r1
      exact symB_any w1 blk Bc Bm kk D ls c n cap a m b P L Q y W h (by simpa using hn) ha hm (by simpa using hb) h1000 (by omega) hsL
    have ih := sym_any w1 blk Bc Bm kk D ls c n cap h1000 N
    by_cases hmm : (a + b) / 2 < m
    · exact symC1_any w1 blk Bc Bm kk D ls c n cap N ih a m b _ P L R Q W h hN hn ha hm hb h1000 (by omega) (by omega) hsL hsR rfl hmm
    · exact symC2_any w1 blk Bc Bm kk D ls c n cap N ih a m b _ P L R Q W h hN hn ha hm hb h1000 (by omega) (by omega) hsL hsR rfl hmm
end Go.Proofs.YtgnhkacndmdfgaaDoor
