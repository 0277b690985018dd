/-
  symMerge of package slices: a row's two sorted parts are merged. Conditions: the row holds the strings, the comparison's map and the tables lie elsewhere; there are at most 1000 strings.
-/
import Derived.Test.YtgnhkacndmdfgaaDoorSortIns
namespace Go.Proofs.YtgnhkacndmdfgaaDoor
open Go.RowKit
open AlphPlain SortPlain


theorem srt_at {lt : ByteArray → ByteArray → Bool} {l : List ByteArray} (h : Srt lt l) {i j : Nat} {x y : ByteArray} (hi : l[i]? = some x) (hj : l[j]? = some y) (hij : i < j) : lt y x = false := by
  obtain ⟨k1, e1⟩ := List.getElem?_eq_some_iff.1 hi
  obtain ⟨k2, e2⟩ := List.getElem?_eq_some_iff.1 hj
  have := (List.pairwise_iff_getElem.1 h) i j k1 k2 hij
  rw [e1, e2] at this
  exact this

/-- Where the search for x's place in R stands: up to p all come before x, from q on none. -/
structure BinR (lt : ByteArray → ByteArray → Bool) (x : ByteArray) (R : List ByteArray) (p q : Nat) : Prop where
  pq : p ≤ q
  qn : q ≤ R.length
  lo : ∀ t r, t < p → R[t]? = some r → lt r x = true
  hi : ∀ t r, q ≤ t → R[t]? = some r → lt r x = false
theorem BinR.up {lt : ByteArray → ByteArray → Bool} (W : Weak lt) {x : ByteArray} {R : List ByteArray} {p q h : Nat} {u : ByteArray} (b : BinR lt x R p q) (hs : Srt lt R) (h1 : h < q) (hp : p ≤ h) (hu : R[h]? = some u) (hl : lt u x = true) : BinR lt x R (h + 1) q := by
  refine ⟨by omega, b.qn, fun t r ht hr => ?_, b.hi⟩
  by_cases e : t = h
  · subst e; rw [hu] at hr; cases hr; exact hl
  · have h2 := srt_at hs hr hu (by omega)
    cases k : lt r x with
    | true => rfl
    | false => have := W.low k h2; rw [hl] at this; cases this
theorem BinR.down {lt : ByteArray → ByteArray → Bool} (W : Weak lt) {x : ByteArray} {R : List ByteArray} {p q h : Nat} {u : ByteArray} (b : BinR lt x R p q) (hs : Srt lt R) (h1 : h < q) (hp : p ≤ h) (hu : R[h]? = some u) (hl : lt u x = false) : BinR lt x R p h := by
  refine ⟨hp, by have := b.qn; omega, b.lo, fun t r ht hr => ?_⟩
  by_cases e : t = h
  · subst e; rw [hu] at hr; cases hr; exact hl
  · exact W.low hl (srt_at hs hu hr (by omega))

/-- x moved t places to the right through R1. -/
def shD (P R1 : List ByteArray) (x : ByteArray) (Z : List ByteArray) (t : Nat) : List ByteArray := P ++ (R1.take t ++ (x :: (R1.drop t ++ Z)))
theorem shD_step {P R1 Z : List ByteArray} {x : ByteArray} {t : Nat} (ht : t < R1.length) :
    ∃ r, (shD P R1 x Z t)[P.length + t]? = some x ∧ (shD P R1 x Z t)[P.length + t + 1]? = some r ∧ exch (shD P R1 x Z t) (P.length + t) (P.length + t + 1) x r = shD P R1 x Z (t + 1) := by
  have hr : R1[t]? = some R1[t] := List.getElem?_eq_getElem ht
  generalize R1[t] = r at hr
  have e : shD P R1 x Z t = (P ++ R1.take t) ++ x :: ([] ++ r :: (R1.drop (t + 1) ++ Z)) := by
    unfold shD
    rw [drop_of_get hr]
    simp only [List.append_assoc, List.cons_append, List.nil_append]
  have l1 : P.length + t = (P ++ R1.take t).length := by rw [List.length_append, List.length_take]; omega
  refine ⟨r, ?_, ?_, ?_⟩
  · rw [e]; exact at_app _ _ _ _ l1
  · rw [e, ← List.cons_append, ← List.append_assoc]
    exact at_app _ _ _ _ (by rw [List.length_append, ← l1]; rfl)
  · rw [e, exch_app _ _ _ _ _ _ _ l1 (by rw [← l1]; rfl)]
    unfold shD
    rw [take_next hr]
    simp only [List.append_assoc, List.cons_append, List.nil_append]

set_option maxRecDepth 100000 in
set_option maxHeartbeats 3200000 in
theorem symA_any (w1 : World) (blk Bc Bm kk : Nat) (D : DataW Unit) (ls : List Lt) (c : Cx w1 blk Bc Bm kk D ls) (n cap a m b : Nat) (P R Q : List ByteArray) (x : ByteArray) (W : World) (h : Sw w1 blk (P ++ (x :: (R ++ Q))) W)
    (hn : n = P.length + 1 + R.length + Q.length) (ha : a = P.length) (hm : m = P.length + 1) (hb : b = P.length + 1 + R.length) (h1000 : n ≤ 1000) (hs : Srt (ltb ls) R) :
    Calls Tryd.prog 61 #[.slice (some ⟨blk, 0, none⟩) n cap, .int .i64 (a : Nat), .int .i64 (m : Nat), .int .i64 (b : Nat), cv Bc] W (UnitSw w1 blk (P ++ (mg (ltb ls) [x] R ++ Q))) := by
  have mixed : Tryd.prog.follows .mixedOrders = true := by kernel_rfl
  have e1 : (m : Int) - (a : Int) = 1 := by omega
  have hmb : m ≤ b := by omega
  have hbn : b ≤ n := by omega
  have HM := Lib.hid (show m = a + 1 by omega)
  have HB := Lib.hid (show b = m + R.length by omega)
  have HA := Lib.hid ha
  have HS := Lib.hid h
  generalize hd : P ++ (x :: (R ++ Q)) = d at *
  have HD := Lib.hid hd
  clear hn ha hm hb h hd
  go_enter Tryd.func61, Tryd.ntmps61
  go_wp2
  clear e1
  go_loopw [10, 11] (fun iv jv wr => ∃ (i j p q : Nat), iv = .int .i64 (i : Nat) ∧ jv = .int .i64 (j : Nat) ∧ i = m + p ∧ j = m + q ∧ BinR (ltb ls) x R p q ∧ Sw w1 blk d wr) (fun iv jv _ => (intOf jv).toNat - (intOf iv).toNat)
  case atStart => exact ⟨m, b, 0, R.length, rfl, rfl, rfl, HB.out, ⟨Nat.zero_le _, Nat.le_refl _, fun t r h => by omega, fun t r h k => by have := (List.getElem?_eq_some_iff.1 k).1; omega⟩, HS.out⟩
  case round =>
    clear HS
    obtain ⟨i, j, p, q, rfl, rfl, hi, hj, hbin, hsw⟩ := hrel
    have hpq := hbin.pq
    have hqn := hbin.qn
    have HSW := Lib.hid hsw
    have HI := Lib.hid hi
    have HJ := Lib.hid hj
    have hij : i ≤ j := by omega
    have hjb : j ≤ b := by have := HB.out; omega
    have hmi : m ≤ i := by omega
    clear hsw hi hj
    by_cases hlt : i < j
    · have hlt' : (i : Int) < (j : Int) := by omega
      obtain ⟨hh, hhh⟩ : ∃ k, k = (i + j) / 2 := ⟨_, rfl⟩
      have e2 : ((i : Int) + (j : Int)) / 2 = ((hh : Nat) : Int) := by omega
      have h1 : i ≤ hh := by omega
      have h2 : hh < j := by omega
      have hrl : hh - m < R.length := by have := HJ.out; omega
      obtain ⟨u, hu⟩ : ∃ u, R[hh - m]? = some u := ⟨_, List.getElem?_eq_getElem hrl⟩
      have hdu : d[hh]? = some u := by
        have := HM.out; have := HA.out
        rw [← HD.out, show hh = P.length + (1 + (hh - m)) by omega, List.getElem?_append_right (by omega), show P.length + (1 + (hh - m)) - P.length = (hh - m) + 1 by omega, List.getElem?_cons_succ, List.getElem?_append_left hrl]
        exact hu
      have hdx : d[a]? = some x := by rw [← HD.out]; exact at_app _ _ _ _ HA.out
      have hcmp := c.cmp (d := d) u x
      have hKp : ∀ w', Sw w1 blk d w' → (Sw w1 blk d w' ∧ w'.cell? ⟨blk, hh, none⟩ = some (.string u) ∧ w'.cell? ⟨blk, a, none⟩ = some (.string x)) := fun w' h => ⟨h, h.cells _ _ hdu, h.cells _ _ hdx⟩
      have hsw := HSW.out
      have hup := fun hl => hbin.up (ltb_weak ls) hs (h := hh - m) (u := u) (by have := HJ.out; omega) (by have := HI.out; omega) hu hl
      have hdn := fun hl => hbin.down (ltb_weak ls) hs (h := hh - m) (u := u) (by have := HJ.out; omega) (by have := HI.out; omega) hu hl
      have HUP := Lib.hid hup
      have HDN := Lib.hid hdn
      have g1 : (0 : Int) ≤ (hh : Int) := by omega
      have g2 : (hh : Int) < (n : Int) := by omega
      have g3 : (0 : Int) ≤ (a : Int) := by omega
      have g4 : (a : Int) < (n : Int) := by have := HM.out; omega
      have g5 : hh ≤ 1000 := by omega
      clear hu hdu hdx hup hdn hhh hbin
      cases hl : ltb ls u x
      · have hc : ¬ cmpL ls u x < 0 := of_decide_eq_false hl
        generalize cmpL ls u x = C at *
        go_wp2
        refine wp_region_held_drew (S := fun w' => Sw w1 blk d w' ∧ w'.cell? ⟨blk, hh, none⟩ = some (.string u) ∧ w'.cell? ⟨blk, a, none⟩ = some (.string x)) (by kernel_rfl) (by first | exact hKp _ (by assumption) | exact hKp _ (Sw.drew (by assumption))) (fun hHeld => ?_)
        refine take_on (i := 0) (v := ?v1) rfl (by kernel_rfl) (by kernel_rfl) (by kernel_rfl) (fun _ _ _ h => h) (by rfl) (by assumption) ?y1 ?_
        case y1 => (intro w hSw; (try dsimp only at hSw); go_simp; (try with_reducible rfl))
        try simp only [Act.put, List.setIfInBounds_toArray, List.set_cons_zero, List.set_cons_succ]
        refine take_on (i := 1) (v := ?v2) rfl (by kernel_rfl) (by kernel_rfl) (by kernel_rfl) (fun _ _ _ h => h) (by rfl) (by assumption) ?y2 ?_
        case y2 => (intro w hSw; (try dsimp only at hSw); go_simp; (try with_reducible rfl))
        try simp only [Act.put, List.setIfInBounds_toArray, List.set_cons_zero, List.set_cons_succ]
        refine take_on (i := 2) (v := ?v3) rfl (by kernel_rfl) (by kernel_rfl) (by kernel_rfl) (fun _ _ _ h => h) (by rfl) (by assumption) ?y3 ?_
        case y3 => (intro w hSw; (try dsimp only at hSw); go_simp; (try with_reducible rfl))
        try simp only [Act.put, List.setIfInBounds_toArray, List.set_cons_zero, List.set_cons_succ]
        refine take_on (i := 3) (v := ?v4) rfl (by kernel_rfl) (by kernel_rfl) (by kernel_rfl) (fun _ _ _ h => h) (by rfl) (by assumption) ?y4 ?_
        case y4 => (intro w hSw; (try dsimp only at hSw); go_simp; (try with_reducible rfl))
        try simp only [Act.put, List.setIfInBounds_toArray, List.set_cons_zero, List.set_cons_succ]
        refine take_on (i := 4) (v := ?v5) rfl (by kernel_rfl) (by kernel_rfl) (by kernel_rfl) (fun _ _ _ h => h) (by rfl) (by assumption) ?y5 ?_
        case y5 => (intro w hSw; (try dsimp only at hSw); go_simp; (try with_reducible rfl))
        try simp only [Act.put, List.setIfInBounds_toArray, List.set_cons_zero, List.set_cons_succ]
        refine take_on (i := 5) (v := ?v6) rfl (by kernel_rfl) (by kernel_rfl) (by kernel_rfl) (fun _ _ _ h => h) (by rfl) (by assumption) ?y6 ?_
        case y6 => (intro w hSw; (try dsimp only at hSw); go_simp; (try with_reducible rfl))
        try simp only [Act.put, List.setIfInBounds_toArray, List.set_cons_zero, List.set_cons_succ]
        refine take_on (i := 6) (v := ?v7) rfl (by kernel_rfl) (by kernel_rfl) (by kernel_rfl) (fun _ _ _ h => h) (by rfl) (by assumption) ?y7 ?_
        case y7 => (intro w hSw; (try dsimp only at hSw); go_simp; (try with_reducible rfl))
        try simp only [Act.put, List.setIfInBounds_toArray, List.set_cons_zero, List.set_cons_succ]
        refine take_on (i := 7) (v := ?v8) rfl (by kernel_rfl) (by kernel_rfl) (by kernel_rfl) (fun _ _ _ h => h) (by rfl) (by assumption) ?y8 ?_
        case y8 => (intro w hSw; (try dsimp only at hSw); go_simp; (try with_reducible rfl))
        try simp only [Act.put, List.setIfInBounds_toArray, List.set_cons_zero, List.set_cons_succ]
        refine take_on (i := 8) (v := ?v9) rfl (by kernel_rfl) (by kernel_rfl) (by kernel_rfl) (fun _ _ _ h => h) (by rfl) (by assumption) ?y9 ?_
        case y9 => (intro w hSw; (try dsimp only at hSw); go_simp; (try with_reducible rfl))
        try simp only [Act.put, List.setIfInBounds_toArray, List.set_cons_zero, List.set_cons_succ]
        refine one_ready (i := 9) rfl (by kernel_rfl) (by rfl) (fun K hK => ?_)
        go_simp
        refine (hcmp _ hHeld.1).mono ?_
        rintro e w' ⟨rfl, N⟩
        try go_simp
        refine hK.out _ _ (by first | exact hKp _ (by assumption) | exact hKp _ (Sw.drew (by assumption))) (fun hHeld => ?_)
        clear hK K
        try simp only [Act.put, List.setIfInBounds_toArray, List.set_cons_zero, List.set_cons_succ]
        refine take_on (i := 10) (v := ?v11) rfl (by kernel_rfl) (by kernel_rfl) (by kernel_rfl) (fun _ _ _ h => h) (by rfl) (by assumption) ?y11 ?_
        case y11 => (intro w hSw; (try dsimp only at hSw); go_simp; (try with_reducible rfl))
        try simp only [Act.put, List.setIfInBounds_toArray, List.set_cons_zero, List.set_cons_succ]
        refine wpAnyH_done (by kernel_rfl) ?_ _
        go_wp2
        go_roundw
        case rel => exact ⟨i, hh, p, hh - m, rfl, rfl, HI.out, by omega, HDN.out hl, hHeld.1⟩
        case measure => simp [intOf]; omega
      · have hc : cmpL ls u x < 0 := of_decide_eq_true hl
        generalize cmpL ls u x = C at *
        go_wp2
        refine wp_region_held_drew (S := fun w' => Sw w1 blk d w' ∧ w'.cell? ⟨blk, hh, none⟩ = some (.string u) ∧ w'.cell? ⟨blk, a, none⟩ = some (.string x)) (by kernel_rfl) (by first | exact hKp _ (by assumption) | exact hKp _ (Sw.drew (by assumption))) (fun hHeld => ?_)
        refine take_on (i := 0) (v := ?v12) rfl (by kernel_rfl) (by kernel_rfl) (by kernel_rfl) (fun _ _ _ h => h) (by rfl) (by assumption) ?y12 ?_
        case y12 => (intro w hSw; (try dsimp only at hSw); go_simp; (try with_reducible rfl))
        try simp only [Act.put, List.setIfInBounds_toArray, List.set_cons_zero, List.set_cons_succ]
        refine take_on (i := 1) (v := ?v13) rfl (by kernel_rfl) (by kernel_rfl) (by kernel_rfl) (fun _ _ _ h => h) (by rfl) (by assumption) ?y13 ?_
        case y13 => (intro w hSw; (try dsimp only at hSw); go_simp; (try with_reducible rfl))
        try simp only [Act.put, List.setIfInBounds_toArray, List.set_cons_zero, List.set_cons_succ]
        refine take_on (i := 2) (v := ?v14) rfl (by kernel_rfl) (by kernel_rfl) (by kernel_rfl) (fun _ _ _ h => h) (by rfl) (by assumption) ?y14 ?_
        case y14 => (intro w hSw; (try dsimp only at hSw); go_simp; (try with_reducible rfl))
        try simp only [Act.put, List.setIfInBounds_toArray, List.set_cons_zero, List.set_cons_succ]
        refine take_on (i := 3) (v := ?v15) rfl (by kernel_rfl) (by kernel_rfl) (by kernel_rfl) (fun _ _ _ h => h) (by rfl) (by assumption) ?y15 ?_
        case y15 => (intro w hSw; (try dsimp only at hSw); go_simp; (try with_reducible rfl))
        try simp only [Act.put, List.setIfInBounds_toArray, List.set_cons_zero, List.set_cons_succ]
        refine take_on (i := 4) (v := ?v16) rfl (by kernel_rfl) (by kernel_rfl) (by kernel_rfl) (fun _ _ _ h => h) (by rfl) (by assumption) ?y16 ?_
        case y16 => (intro w hSw; (try dsimp only at hSw); go_simp; (try with_reducible rfl))
        try simp only [Act.put, List.setIfInBounds_toArray, List.set_cons_zero, List.set_cons_succ]
        refine take_on (i := 5) (v := ?v17) rfl (by kernel_rfl) (by kernel_rfl) (by kernel_rfl) (fun _ _ _ h => h) (by rfl) (by assumption) ?y17 ?_
        case y17 => (intro w hSw; (try dsimp only at hSw); go_simp; (try with_reducible rfl))
        try simp only [Act.put, List.setIfInBounds_toArray, List.set_cons_zero, List.set_cons_succ]
        refine take_on (i := 6) (v := ?v18) rfl (by kernel_rfl) (by kernel_rfl) (by kernel_rfl) (fun _ _ _ h => h) (by rfl) (by assumption) ?y18 ?_
        case y18 => (intro w hSw; (try dsimp only at hSw); go_simp; (try with_reducible rfl))
        try simp only [Act.put, List.setIfInBounds_toArray, List.set_cons_zero, List.set_cons_succ]
        refine take_on (i := 7) (v := ?v19) rfl (by kernel_rfl) (by kernel_rfl) (by kernel_rfl) (fun _ _ _ h => h) (by rfl) (by assumption) ?y19 ?_
        case y19 => (intro w hSw; (try dsimp only at hSw); go_simp; (try with_reducible rfl))
        try simp only [Act.put, List.setIfInBounds_toArray, List.set_cons_zero, List.set_cons_succ]
        refine take_on (i := 8) (v := ?v20) rfl (by kernel_rfl) (by kernel_rfl) (by kernel_rfl) (fun _ _ _ h => h) (by rfl) (by assumption) ?y20 ?_
        case y20 => (intro w hSw; (try dsimp only at hSw); go_simp; (try with_reducible rfl))
        try simp only [Act.put, List.setIfInBounds_toArray, List.set_cons_zero, List.set_cons_succ]
        refine one_ready (i := 9) rfl (by kernel_rfl) (by rfl) (fun K hK => ?_)
        go_simp
        refine (hcmp _ hHeld.1).mono ?_
        rintro e w' ⟨rfl, N⟩
        try go_simp
        refine hK.out _ _ (by first | exact hKp _ (by assumption) | exact hKp _ (Sw.drew (by assumption))) (fun hHeld => ?_)
        clear hK K
        try simp only [Act.put, List.setIfInBounds_toArray, List.set_cons_zero, List.set_cons_succ]
        refine take_on (i := 10) (v := ?v22) rfl (by kernel_rfl) (by kernel_rfl) (by kernel_rfl) (fun _ _ _ h => h) (by rfl) (by assumption) ?y22 ?_
        case y22 => (intro w hSw; (try dsimp only at hSw); go_simp; (try with_reducible rfl))
        try simp only [Act.put, List.setIfInBounds_toArray, List.set_cons_zero, List.set_cons_succ]
        refine wpAnyH_done (by kernel_rfl) ?_ _
        go_wp2
        go_roundw
        case rel => exact ⟨hh + 1, j, hh - m + 1, q, by go_num, rfl, by omega, HJ.out, HUP.out hl, hHeld.1⟩
        case measure => simp [intOf]; omega
    · have hlt' : ¬ (i : Int) < (j : Int) := by omega
      have hpq2 : p = q := by have := HI.out; have := HJ.out; omega
      subst hpq2
      obtain ⟨ee, hee⟩ : ∃ k, k = a + p := ⟨_, rfl⟩
      have e3 : (i : Int) - 1 = ((ee : Nat) : Int) := by have := HI.out; have := HM.out; omega
      have hpl : (R.take p).length = p := by rw [List.length_take]; omega
      have hres : P ++ (R.take p ++ (x :: (R.drop p ++ Q))) = P ++ (mg (ltb ls) [x] R ++ Q) := by
        have := mg_one (lt := ltb ls) (x := x) (R1 := R.take p) (R2 := R.drop p) (fun r hr => by
          obtain ⟨t, ht⟩ := List.getElem?_of_mem hr
          have hlt := (List.getElem?_eq_some_iff.1 ht).1
          rw [List.getElem?_take_of_lt (by omega)] at ht
          exact hbin.lo t r (by omega) ht) (fun r hr => by
          obtain ⟨t, ht⟩ := List.getElem?_of_mem hr
          rw [List.getElem?_drop] at ht
          exact hbin.hi (p + t) r (by omega) ht)
        rw [List.take_append_drop] at this
        rw [this]; simp
      have hst : d = shD P (R.take p) x (R.drop p ++ Q) 0 := by
        rw [← HD.out]
        unfold shD
        simp only [List.take_zero, List.drop_zero, List.nil_append]
        rw [← List.append_assoc, List.take_append_drop]
      have hsw := HSW.out
      rw [hst] at hsw
      have HS0 := Lib.hid hsw
      have HRES := Lib.hid hres
      have HEE := Lib.hid hee
      have HIE := Lib.hid (show i = ee + 1 by omega)
      have HPL := Lib.hid hpl
      have heeb : ee < b := by have := HB.out; have := HM.out; omega
      clear hsw hst hres hee hpl HSW HI HJ hbin hs
      generalize R.take p = R1 at *
      generalize R.drop p ++ Q = Z at *
      go_wp2
      clear e3
      go_loopw [13] (fun kv wr => ∃ (k t : Nat), kv = .int .i64 (k : Nat) ∧ k = a + t ∧ t ≤ p ∧ Sw w1 blk (shD P R1 x Z t) wr) (fun kv _ => ee - (intOf kv).toNat)
      case atStart => exact ⟨a, 0, rfl, rfl, Nat.zero_le _, HS0.out⟩
      case round =>
        clear HS0
        obtain ⟨k, t, rfl, hk, htp, hsw⟩ := hrel
        have e3 : (i : Int) - 1 = ((ee : Nat) : Int) := by have := HEE.out; have := HIE.out; omega
        by_cases hke : k < ee
        · have hke' : (k : Int) < (ee : Int) := by omega
          obtain ⟨r, hx1, hr1, hex⟩ := shD_step (P := P) (x := x) (Z := Z) (R1 := R1) (t := t) (by have := HEE.out; have := HPL.out; omega)
          rw [← HA.out, ← hk] at hx1 hr1 hex
          have ca := hsw.cells _ _ hx1
          have cb := hsw.cells _ _ hr1
          have fa := hsw.thaw k (List.getElem?_eq_some_iff.1 hx1).1
          have fb := hsw.thaw (k + 1) (List.getElem?_eq_some_iff.1 hr1).1
          have cc : (wr.setCell ⟨blk, k, none⟩ (.string r)).cell? ⟨blk, k + 1, none⟩ = some (.string r) := by
            rw [World.cell?_setCell_other _ _ _ _ (by intro e; simp only [Addr.mk.injEq] at e; omega)]; exact cb
          have hsx := hsw.swap hx1 hr1 (show k ≠ k + 1 by omega)
          rw [hex] at hsx
          have HW := Lib.hid hsx.drew
          have HK := Lib.hid hk
          clear hsx hsw hx1 hr1 hex hk
          have i1 : (0 : Int) ≤ (k : Int) := by omega
          have i2 : (k : Int) < (n : Int) := by omega
          have j1 : (0 : Int) ≤ (k : Int) + 1 := by omega
          have j2 : (k : Int) + 1 < (n : Int) := by omega
          have j3 : ((k : Int) + 1).toNat = k + 1 := by omega
          have j4 : IntKind.i64.wrap ((k : Int) + 1) = (k : Int) + 1 := wrap_small _ (by omega) (by omega)
          go_wp2
          go_big_region_o
          clear ca cb cc fa fb j3 j4
          generalize ((wr.setCell ⟨blk, k, none⟩ (.string r)).setCell ⟨blk, k + 1, none⟩ (.string x)).drew = w3 at HW ⊢
          go_wp2
          have hk := HK.out
          go_roundw
          case rel => exact ⟨k + 1, t + 1, by go_num, by omega, by have := HEE.out; omega, HW.out⟩
          case measure => simp [intOf]; omega
        · have hke' : ¬ (k : Int) < (ee : Int) := by omega
          have htp2 : t = p := by have := HEE.out; omega
          subst htp2
          have HSW := Lib.hid hsw
          clear hsw hk
          go_wp2
          go_end0
          refine ⟨rfl, ?_⟩
          rw [← HRES.out]
          have := HSW.out
          unfold shD at this
          rw [← HPL.out, List.take_length, List.drop_length, List.nil_append] at this
          exact this
end Go.Proofs.YtgnhkacndmdfgaaDoor
