/-
  symMerge of package slices, where the right part is one string. Conditions: the row holds the strings, the comparison's map and the tables lie elsewhere; there are at most 1000 strings.
-/
import Derived.Test.YtgnhkacndmdfgaaDoorSortSym
namespace Go.Proofs.YtgnhkacndmdfgaaDoor
open Go.RowKit
open AlphPlain SortPlain

/-- Where the search for y's place in L stands: up to p none comes after y, from q on all do. -/
structure BinL (lt : ByteArray → ByteArray → Bool) (y : ByteArray) (L : List ByteArray) (p q : Nat) : Prop where
  pq : p ≤ q
  qn : q ≤ L.length
  lo : ∀ t r, t < p → L[t]? = some r → lt y r = false
  hi : ∀ t r, q ≤ t → L[t]? = some r → lt y r = true
theorem BinL.up {lt : ByteArray → ByteArray → Bool} (W : Weak lt) {y : ByteArray} {L : List ByteArray} {p q h : Nat} {u : ByteArray} (b : BinL lt y L p q) (hs : Srt lt L) (h1 : h < q) (hu : L[h]? = some u) (hl : lt y u = false) : BinL lt y L (h + 1) q := by
  refine ⟨by omega, b.qn, fun t r ht hr => ?_, b.hi⟩
  by_cases e : t = h
  · subst e; rw [hu] at hr; cases hr; exact hl
  · exact W.low (srt_at hs hr hu (by omega)) hl
theorem BinL.down {lt : ByteArray → ByteArray → Bool} (W : Weak lt) {y : ByteArray} {L : List ByteArray} {p q h : Nat} {u : ByteArray} (b : BinL lt y L p q) (hs : Srt lt L) (h1 : h < q) (hp : p ≤ h) (hu : L[h]? = some u) (hl : lt y u = true) : BinL lt y L p h := by
  refine ⟨hp, by have := b.qn; omega, b.lo, fun t r ht hr => ?_⟩
  by_cases e : t = h
  · subst e; rw [hu] at hr; cases hr; exact hl
  · have h2 := srt_at hs hu hr (by omega)
    cases k : lt y r with
    | true => rfl
    | false => have := W.low h2 k; rw [hl] at this; cases this

theorem shD_back {P L2 Z : List ByteArray} {y : ByteArray} {s : Nat} (h0 : 0 < s) (hs : s ≤ L2.length) :
    ∃ r, (shD P L2 y Z s)[P.length + s]? = some y ∧ (shD P L2 y Z s)[P.length + s - 1]? = some r ∧ exch (shD P L2 y Z s) (P.length + s) (P.length + s - 1) y r = shD P L2 y Z (s - 1) := by
  obtain ⟨t, rfl⟩ : ∃ t, s = t + 1 := ⟨s - 1, by omega⟩
  have hr : L2[t]? = some (L2[t]'(by omega)) := List.getElem?_eq_getElem (by omega)
  generalize L2[t]'(by omega) = r at hr
  have e : shD P L2 y Z (t + 1) = (P ++ L2.take t) ++ r :: ([] ++ y :: (L2.drop (t + 1) ++ Z)) := by
    unfold shD
    rw [take_next hr]
    simp only [List.append_assoc, List.cons_append, List.nil_append]
  have l1 : P.length + t = (P ++ L2.take t).length := by rw [List.length_append, List.length_take]; omega
  refine ⟨r, ?_, ?_, ?_⟩
  · rw [e, ← List.cons_append, ← List.append_assoc]
    exact at_app _ _ _ _ (by rw [List.length_append, ← l1]; rfl)
  · rw [e]; exact at_app _ _ _ _ (by omega)
  · rw [e, exch_app' (P ++ L2.take t) [] (L2.drop (t + 1) ++ Z) r y (P.length + (t + 1) - 1) (P.length + (t + 1)) (by omega) (by rw [← l1]; simp; omega)]
    unfold shD
    rw [show t + 1 - 1 = t by omega, drop_of_get hr]
    simp only [List.append_assoc, List.cons_append, List.nil_append]

set_option maxRecDepth 100000 in
set_option maxHeartbeats 3200000 in
theorem symB_any (w1 : World) (blk Bc Bm kk : Nat) (D : DataW Unit) (ls : List Lt) (c : Cx w1 blk Bc Bm kk D ls) (n cap a m b : Nat) (P L Q : List ByteArray) (y : ByteArray) (W : World) (h : Sw w1 blk (P ++ (L ++ (y :: Q))) W)
    (hn : n = P.length + L.length + 1 + Q.length) (ha : a = P.length) (hm : m = P.length + L.length) (hb : b = P.length + L.length + 1) (h1000 : n ≤ 1000) (h2 : 2 ≤ L.length) (hs : Srt (ltb ls) L) :
    Calls Tryd.prog 61 #[.slice (some ⟨blk, 0, none⟩) n cap, .int .i64 (a : Nat), .int .i64 (m : Nat), .int .i64 (b : Nat), cv Bc] W (UnitSw w1 blk (P ++ (mg (ltb ls) L [y] ++ Q))) := by
  have mixed : Tryd.prog.follows .mixedOrders = true := by kernel_rfl
  obtain ⟨l0, hl0⟩ : ∃ k, k = L.length := ⟨_, rfl⟩
  have e1 : (m : Int) - (a : Int) = ((l0 : Nat) : Int) := by omega
  have e1' : ¬ (l0 : Int) = 1 := by omega
  have e1'' : ¬ l0 = 1 := by omega
  have e1b : ((l0 : Int) == 1) = false := by rw [beq_eq_false_iff_ne]; exact e1'
  have e1c : decide ((l0 : Int) = 1) = false := decide_eq_false e1'
  have e1d : decide (l0 = 1) = false := decide_eq_false e1''
  have e2 : (b : Int) - (m : Int) = 1 := by omega
  have ham : a ≤ m := by omega
  have hbn : m < n := by omega
  have HM := Lib.hid (show m = a + L.length by omega)
  have HA := Lib.hid ha
  have HS := Lib.hid h
  have hdy : (P ++ (L ++ (y :: Q)))[m]? = some y := by rw [← List.append_assoc]; exact at_app _ _ _ _ (by rw [List.length_append]; omega)
  generalize hd : P ++ (L ++ (y :: Q)) = d at *
  have HD := Lib.hid hd
  have HDY := Lib.hid hdy
  clear hn ha hm hb h hd hl0 hdy
  go_enter Tryd.func61, Tryd.ntmps61
  go_wp2
  clear e1 e2
  go_loopw [14, 15] (fun iv jv wr => ∃ (i j p q : Nat), iv = .int .i64 (i : Nat) ∧ jv = .int .i64 (j : Nat) ∧ i = a + p ∧ j = a + q ∧ BinL (ltb ls) y L p q ∧ Sw w1 blk d wr) (fun iv jv _ => (intOf jv).toNat - (intOf iv).toNat)
  case atStart => exact ⟨a, m, 0, L.length, rfl, rfl, rfl, HM.out, ⟨Nat.zero_le _, Nat.le_refl _, fun t r h => by omega, fun t r h k => by have := (List.getElem?_eq_some_iff.1 k).1; omega⟩, HS.out⟩
  case round =>
    clear HS
    obtain ⟨i, j, p, q, rfl, rfl, hi, hj, hbin, hsw⟩ := hrel
    have hpq := hbin.pq
    have hqn := hbin.qn
    have HSW := Lib.hid hsw
    have HI := Lib.hid hi
    have HJ := Lib.hid hj
    have hij : i ≤ j := by omega
    have hjb : j ≤ m := by have := HM.out; omega
    have hmi : a ≤ i := by omega
    clear hsw hi hj
    by_cases hlt : i < j
    · have hlt' : (i : Int) < (j : Int) := by omega
      obtain ⟨hh, hhh⟩ : ∃ k, k = (i + j) / 2 := ⟨_, rfl⟩
      have e2 : ((i : Int) + (j : Int)) / 2 = ((hh : Nat) : Int) := by omega
      have h1 : i ≤ hh := by omega
      have h3 : hh < j := by omega
      have hrl : hh - a < L.length := by have := HJ.out; omega
      obtain ⟨u, hu⟩ : ∃ u, L[hh - a]? = some u := ⟨_, List.getElem?_eq_getElem hrl⟩
      have hdu : d[hh]? = some u := by
        have := HA.out
        rw [← HD.out, show hh = P.length + (hh - a) by omega, List.getElem?_append_right (by omega), show P.length + (hh - a) - P.length = hh - a by omega, List.getElem?_append_left hrl]
        exact hu
      have hcmp := c.cmp (d := d) y u
      have hdy := HDY.out
      have hKp : ∀ w', Sw w1 blk d w' → (Sw w1 blk d w' ∧ w'.cell? ⟨blk, m, none⟩ = some (.string y) ∧ w'.cell? ⟨blk, hh, none⟩ = some (.string u)) := fun w' h => ⟨h, h.cells _ _ hdy, h.cells _ _ hdu⟩
      have hsw := HSW.out
      have hup := fun hl => hbin.up (ltb_weak ls) hs (h := hh - a) (u := u) (by have := HJ.out; omega) hu hl
      have hdn := fun hl => hbin.down (ltb_weak ls) hs (h := hh - a) (u := u) (by have := HJ.out; omega) (by have := HI.out; omega) hu hl
      have HUP := Lib.hid hup
      have HDN := Lib.hid hdn
      have g1 : (0 : Int) ≤ (hh : Int) := by omega
      have g2 : (hh : Int) < (n : Int) := by omega
      have g3 : (0 : Int) ≤ (m : Int) := by omega
      have g4 : (m : Int) < (n : Int) := by omega
      have g5 : hh ≤ 1000 := by omega
      clear hu hdu hdy hup hdn hhh hbin
      cases hl : ltb ls y u
      · have hc : ¬ cmpL ls y u < 0 := of_decide_eq_false hl
        generalize cmpL ls y u = C at *
        have hc1 : 0 ≤ C := by omega
        have hc2 : decide (C < 0) = false := decide_eq_false hc
        have hc3 : decide (0 ≤ C) = true := decide_eq_true hc1
        go_wp2
        refine wp_region_held_drew (S := fun w' => Sw w1 blk d w' ∧ w'.cell? ⟨blk, m, none⟩ = some (.string y) ∧ w'.cell? ⟨blk, hh, none⟩ = some (.string u)) (by kernel_rfl) (by first | exact hKp _ (by assumption) | exact hKp _ (Sw.drew (by assumption))) (fun hHeld => ?_)
        refine take_on (i := 0) (v := ?v1) rfl (by kernel_rfl) (by kernel_rfl) (by kernel_rfl) (fun _ _ _ h => h) (by rfl) (by assumption) ?y1 ?_
        case y1 => (intro w hSw; (try dsimp only at hSw); go_simp; (try with_reducible rfl))
        try simp only [Act.put, List.setIfInBounds_toArray, List.set_cons_zero, List.set_cons_succ]
        refine take_on (i := 1) (v := ?v2) rfl (by kernel_rfl) (by kernel_rfl) (by kernel_rfl) (fun _ _ _ h => h) (by rfl) (by assumption) ?y2 ?_
        case y2 => (intro w hSw; (try dsimp only at hSw); go_simp; (try with_reducible rfl))
        try simp only [Act.put, List.setIfInBounds_toArray, List.set_cons_zero, List.set_cons_succ]
        refine take_on (i := 2) (v := ?v3) rfl (by kernel_rfl) (by kernel_rfl) (by kernel_rfl) (fun _ _ _ h => h) (by rfl) (by assumption) ?y3 ?_
        case y3 => (intro w hSw; (try dsimp only at hSw); go_simp; (try with_reducible rfl))
        try simp only [Act.put, List.setIfInBounds_toArray, List.set_cons_zero, List.set_cons_succ]
        refine take_on (i := 3) (v := ?v4) rfl (by kernel_rfl) (by kernel_rfl) (by kernel_rfl) (fun _ _ _ h => h) (by rfl) (by assumption) ?y4 ?_
        case y4 => (intro w hSw; (try dsimp only at hSw); go_simp; (try with_reducible rfl))
        try simp only [Act.put, List.setIfInBounds_toArray, List.set_cons_zero, List.set_cons_succ]
        refine take_on (i := 4) (v := ?v5) rfl (by kernel_rfl) (by kernel_rfl) (by kernel_rfl) (fun _ _ _ h => h) (by rfl) (by assumption) ?y5 ?_
        case y5 => (intro w hSw; (try dsimp only at hSw); go_simp; (try with_reducible rfl))
        try simp only [Act.put, List.setIfInBounds_toArray, List.set_cons_zero, List.set_cons_succ]
        refine take_on (i := 5) (v := ?v6) rfl (by kernel_rfl) (by kernel_rfl) (by kernel_rfl) (fun _ _ _ h => h) (by rfl) (by assumption) ?y6 ?_
        case y6 => (intro w hSw; (try dsimp only at hSw); go_simp; (try with_reducible rfl))
        try simp only [Act.put, List.setIfInBounds_toArray, List.set_cons_zero, List.set_cons_succ]
        refine take_on (i := 6) (v := ?v7) rfl (by kernel_rfl) (by kernel_rfl) (by kernel_rfl) (fun _ _ _ h => h) (by rfl) (by assumption) ?y7 ?_
        case y7 => (intro w hSw; (try dsimp only at hSw); go_simp; (try with_reducible rfl))
        try simp only [Act.put, List.setIfInBounds_toArray, List.set_cons_zero, List.set_cons_succ]
        refine take_on (i := 7) (v := ?v8) rfl (by kernel_rfl) (by kernel_rfl) (by kernel_rfl) (fun _ _ _ h => h) (by rfl) (by assumption) ?y8 ?_
        case y8 => (intro w hSw; (try dsimp only at hSw); go_simp; (try with_reducible rfl))
        try simp only [Act.put, List.setIfInBounds_toArray, List.set_cons_zero, List.set_cons_succ]
        refine take_on (i := 8) (v := ?v9) rfl (by kernel_rfl) (by kernel_rfl) (by kernel_rfl) (fun _ _ _ h => h) (by rfl) (by assumption) ?y9 ?_
        case y9 => (intro w hSw; (try dsimp only at hSw); go_simp; (try with_reducible rfl))
        try simp only [Act.put, List.setIfInBounds_toArray, List.set_cons_zero, List.set_cons_succ]
        refine one_ready (i := 9) rfl (by kernel_rfl) (by rfl) (fun K hK => ?_)
        go_simp
        refine (hcmp _ hHeld.1).mono ?_
        rintro e w' ⟨rfl, N⟩
        try go_simp
        refine hK.out _ _ (by first | exact hKp _ (by assumption) | exact hKp _ (Sw.drew (by assumption))) (fun hHeld => ?_)
        clear hK K
        try simp only [Act.put, List.setIfInBounds_toArray, List.set_cons_zero, List.set_cons_succ]
        refine take_on (i := 10) (v := ?v11) rfl (by kernel_rfl) (by kernel_rfl) (by kernel_rfl) (fun _ _ _ h => h) (by rfl) (by assumption) ?y11 ?_
        case y11 => (intro w hSw; (try dsimp only at hSw); go_simp; (try with_reducible rfl))
        try simp only [Act.put, List.setIfInBounds_toArray, List.set_cons_zero, List.set_cons_succ]
        refine take_on (i := 11) (v := ?v12) rfl (by kernel_rfl) (by kernel_rfl) (by kernel_rfl) (fun _ _ _ h => h) (by rfl) (by assumption) ?y12 ?_
        case y12 => (intro w hSw; (try dsimp only at hSw); go_simp; (try with_reducible rfl))
        try simp only [Act.put, List.setIfInBounds_toArray, List.set_cons_zero, List.set_cons_succ]
        refine wpAnyH_done (by kernel_rfl) ?_ _
        go_wp2
        go_roundw
        case rel => exact ⟨hh + 1, j, hh - a + 1, q, by go_num, rfl, by omega, HJ.out, HUP.out hl, hHeld.1⟩
        case measure => simp [intOf]; omega
      · have hc : cmpL ls y u < 0 := of_decide_eq_true hl
        generalize cmpL ls y u = C at *
        have hc1 : ¬ 0 ≤ C := by omega
        have hc2 : decide (C < 0) = true := decide_eq_true hc
        have hc3 : decide (0 ≤ C) = false := decide_eq_false hc1
        go_wp2
        refine wp_region_held_drew (S := fun w' => Sw w1 blk d w' ∧ w'.cell? ⟨blk, m, none⟩ = some (.string y) ∧ w'.cell? ⟨blk, hh, none⟩ = some (.string u)) (by kernel_rfl) (by first | exact hKp _ (by assumption) | exact hKp _ (Sw.drew (by assumption))) (fun hHeld => ?_)
        refine take_on (i := 0) (v := ?v13) rfl (by kernel_rfl) (by kernel_rfl) (by kernel_rfl) (fun _ _ _ h => h) (by rfl) (by assumption) ?y13 ?_
        case y13 => (intro w hSw; (try dsimp only at hSw); go_simp; (try with_reducible rfl))
        try simp only [Act.put, List.setIfInBounds_toArray, List.set_cons_zero, List.set_cons_succ]
        refine take_on (i := 1) (v := ?v14) rfl (by kernel_rfl) (by kernel_rfl) (by kernel_rfl) (fun _ _ _ h => h) (by rfl) (by assumption) ?y14 ?_
        case y14 => (intro w hSw; (try dsimp only at hSw); go_simp; (try with_reducible rfl))
        try simp only [Act.put, List.setIfInBounds_toArray, List.set_cons_zero, List.set_cons_succ]
        refine take_on (i := 2) (v := ?v15) rfl (by kernel_rfl) (by kernel_rfl) (by kernel_rfl) (fun _ _ _ h => h) (by rfl) (by assumption) ?y15 ?_
        case y15 => (intro w hSw; (try dsimp only at hSw); go_simp; (try with_reducible rfl))
        try simp only [Act.put, List.setIfInBounds_toArray, List.set_cons_zero, List.set_cons_succ]
        refine take_on (i := 3) (v := ?v16) rfl (by kernel_rfl) (by kernel_rfl) (by kernel_rfl) (fun _ _ _ h => h) (by rfl) (by assumption) ?y16 ?_
        case y16 => (intro w hSw; (try dsimp only at hSw); go_simp; (try with_reducible rfl))
        try simp only [Act.put, List.setIfInBounds_toArray, List.set_cons_zero, List.set_cons_succ]
        refine take_on (i := 4) (v := ?v17) rfl (by kernel_rfl) (by kernel_rfl) (by kernel_rfl) (fun _ _ _ h => h) (by rfl) (by assumption) ?y17 ?_
        case y17 => (intro w hSw; (try dsimp only at hSw); go_simp; (try with_reducible rfl))
        try simp only [Act.put, List.setIfInBounds_toArray, List.set_cons_zero, List.set_cons_succ]
        refine take_on (i := 5) (v := ?v18) rfl (by kernel_rfl) (by kernel_rfl) (by kernel_rfl) (fun _ _ _ h => h) (by rfl) (by assumption) ?y18 ?_
        case y18 => (intro w hSw; (try dsimp only at hSw); go_simp; (try with_reducible rfl))
        try simp only [Act.put, List.setIfInBounds_toArray, List.set_cons_zero, List.set_cons_succ]
        refine take_on (i := 6) (v := ?v19) rfl (by kernel_rfl) (by kernel_rfl) (by kernel_rfl) (fun _ _ _ h => h) (by rfl) (by assumption) ?y19 ?_
        case y19 => (intro w hSw; (try dsimp only at hSw); go_simp; (try with_reducible rfl))
        try simp only [Act.put, List.setIfInBounds_toArray, List.set_cons_zero, List.set_cons_succ]
        refine take_on (i := 7) (v := ?v20) rfl (by kernel_rfl) (by kernel_rfl) (by kernel_rfl) (fun _ _ _ h => h) (by rfl) (by assumption) ?y20 ?_
        case y20 => (intro w hSw; (try dsimp only at hSw); go_simp; (try with_reducible rfl))
        try simp only [Act.put, List.setIfInBounds_toArray, List.set_cons_zero, List.set_cons_succ]
        refine take_on (i := 8) (v := ?v21) rfl (by kernel_rfl) (by kernel_rfl) (by kernel_rfl) (fun _ _ _ h => h) (by rfl) (by assumption) ?y21 ?_
        case y21 => (intro w hSw; (try dsimp only at hSw); go_simp; (try with_reducible rfl))
        try simp only [Act.put, List.setIfInBounds_toArray, List.set_cons_zero, List.set_cons_succ]
        refine one_ready (i := 9) rfl (by kernel_rfl) (by rfl) (fun K hK => ?_)
        go_simp
        refine (hcmp _ hHeld.1).mono ?_
        rintro e w' ⟨rfl, N⟩
        try go_simp
        refine hK.out _ _ (by first | exact hKp _ (by assumption) | exact hKp _ (Sw.drew (by assumption))) (fun hHeld => ?_)
        clear hK K
        try simp only [Act.put, List.setIfInBounds_toArray, List.set_cons_zero, List.set_cons_succ]
        refine take_on (i := 10) (v := ?v23) rfl (by kernel_rfl) (by kernel_rfl) (by kernel_rfl) (fun _ _ _ h => h) (by rfl) (by assumption) ?y23 ?_
        case y23 => (intro w hSw; (try dsimp only at hSw); go_simp; (try with_reducible rfl))
        try simp only [Act.put, List.setIfInBounds_toArray, List.set_cons_zero, List.set_cons_succ]
        refine take_on (i := 11) (v := ?v24) rfl (by kernel_rfl) (by kernel_rfl) (by kernel_rfl) (fun _ _ _ h => h) (by rfl) (by assumption) ?y24 ?_
        case y24 => (intro w hSw; (try dsimp only at hSw); go_simp; (try with_reducible rfl))
        try simp only [Act.put, List.setIfInBounds_toArray, List.set_cons_zero, List.set_cons_succ]
        refine wpAnyH_done (by kernel_rfl) ?_ _
        go_wp2
        go_roundw
        case rel => exact ⟨i, hh, p, hh - a, rfl, rfl, HI.out, by omega, HDN.out hl, hHeld.1⟩
        case measure => simp [intOf]; omega
    · have hlt' : ¬ (i : Int) < (j : Int) := by omega
      have hpq2 : p = q := by have := HI.out; have := HJ.out; omega
      subst hpq2
      have hpl : (L.drop p).length = L.length - p := List.length_drop
      have hptl : (P ++ L.take p).length = i := by rw [List.length_append, List.length_take]; have := HI.out; have := HA.out; omega
      have hres : (P ++ L.take p) ++ (y :: (L.drop p ++ Q)) = P ++ (mg (ltb ls) L [y] ++ Q) := by
        have := one_mg (lt := ltb ls) (y := y) (L1 := L.take p) (L2 := L.drop p) (fun r hr => by
          obtain ⟨t, ht⟩ := List.getElem?_of_mem hr
          have hlt := (List.getElem?_eq_some_iff.1 ht).1
          rw [List.length_take] at hlt
          rw [List.getElem?_take_of_lt (by omega)] at ht
          exact hbin.lo t r (by omega) ht) (fun r hr => by
          obtain ⟨t, ht⟩ := List.getElem?_of_mem hr
          rw [List.getElem?_drop] at ht
          exact hbin.hi (p + t) r (by omega) ht)
        rw [List.take_append_drop] at this
        rw [this]; simp
      have hst : d = shD (P ++ L.take p) (L.drop p) y Q (L.drop p).length := by
        rw [← HD.out]
        unfold shD
        rw [List.take_length, List.drop_length, List.nil_append, List.append_assoc, ← List.append_assoc (L.take p), List.take_append_drop]
      have hsw := HSW.out
      rw [hst] at hsw
      have HS0 := Lib.hid hsw
      have HRES := Lib.hid hres
      have HPL := Lib.hid hpl
      have HPT := Lib.hid hptl
      have HMI := Lib.hid (show m = i + (L.drop p).length by have := HM.out; have := HI.out; omega)
      clear hsw hst hres hpl hptl HSW HI HJ hbin hs
      generalize L.drop p = L2 at *
      generalize P ++ L.take p = P1 at *
      go_wp2
      go_loopw [17] (fun kv wr => ∃ (k s : Nat), kv = .int .i64 (k : Nat) ∧ k = i + s ∧ s ≤ L2.length ∧ Sw w1 blk (shD P1 L2 y Q s) wr) (fun kv _ => (intOf kv).toNat)
      case atStart => exact ⟨m, L2.length, rfl, HMI.out, Nat.le_refl _, HS0.out⟩
      case round =>
        clear HS0
        obtain ⟨k, s, rfl, hk, hs2, hsw⟩ := hrel
        have hkm : k ≤ m := by have := HMI.out; omega
        by_cases hke : i < k
        · have hke' : (i : Int) < (k : Int) := by omega
          obtain ⟨r, hx1, hr1, hex⟩ := shD_back (P := P1) (y := y) (Z := Q) (L2 := L2) (s := s) (by omega) hs2
          rw [HPT.out, ← hk] at hx1 hr1 hex
          have ca := hsw.cells _ _ hx1
          have cb := hsw.cells _ _ hr1
          have fa := hsw.thaw k (List.getElem?_eq_some_iff.1 hx1).1
          have fb := hsw.thaw (k - 1) (List.getElem?_eq_some_iff.1 hr1).1
          have cc : (wr.setCell ⟨blk, k, none⟩ (.string r)).cell? ⟨blk, k - 1, none⟩ = some (.string r) := by
            rw [World.cell?_setCell_other _ _ _ _ (by intro e; simp only [Addr.mk.injEq] at e; omega)]; exact cb
          have hsx := hsw.swap hx1 hr1 (show k ≠ k - 1 by omega)
          rw [hex] at hsx
          have HW := Lib.hid hsx.drew
          have HK := Lib.hid hk
          have hjv : Value.int .i64 ((k : Int) - 1) = .int .i64 ((k - 1 : Nat) : Int) := by congr 1; omega
          have HJV := Lib.hid hjv
          clear hsx hsw hx1 hr1 hex hk hjv
          have i1 : (0 : Int) ≤ (k : Int) := by omega
          have i2 : (k : Int) < (n : Int) := by omega
          have i3 : (1 : Int) ≤ (k : Int) := by omega
          have i4 : 1 ≤ k := by omega
          have j1 : (0 : Int) ≤ (k : Int) - 1 := by omega
          have j2 : (k : Int) - 1 < (n : Int) := by omega
          have j3 : ((k : Int) - 1).toNat = k - 1 := by omega
          have j4 : IntKind.i64.wrap ((k : Int) - 1) = (k : Int) - 1 := wrap_small _ (by omega) (by omega)
          go_wp2
          go_big_region_o
          clear ca cb cc fa fb j3 j4
          generalize ((wr.setCell ⟨blk, k, none⟩ (.string r)).setCell ⟨blk, k - 1, none⟩ (.string y)).drew = w3 at HW ⊢
          go_wp2
          have hk := HK.out
          go_roundw
          case rel => exact ⟨k - 1, s - 1, HJV.out, by omega, by omega, HW.out⟩
          case measure => simp [intOf]; omega
        · have hke' : ¬ (i : Int) < (k : Int) := by omega
          have hs0 : s = 0 := by omega
          subst hs0
          have HSW := Lib.hid hsw
          clear hsw hk
          go_wp2
          go_end0
          refine ⟨rfl, ?_⟩
          rw [← HRES.out]
          have := HSW.out
          unfold shD at this
          simpa using this
end Go.Proofs.YtgnhkacndmdfgaaDoor
