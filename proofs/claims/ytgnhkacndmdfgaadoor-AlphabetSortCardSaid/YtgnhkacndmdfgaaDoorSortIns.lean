/-
  The comparison as the sort calls it, and insertionSort of package slices, over a row of strings. Conditions: the row holds the strings, the comparison's map and the tables lie elsewhere; there are at most 1000 strings.
-/
import Derived.Test.YtgnhkacndmdfgaaDoorSortSwap
namespace Go.Proofs.YtgnhkacndmdfgaaDoor
open Go.RowKit
open AlphPlain SortPlain

def ltb (ls : List Lt) (x y : ByteArray) : Bool := decide (cmpL ls x y < 0)
theorem ltb_weak (ls : List Lt) : Weak (ltb ls) := by
  refine ⟨?_, ?_, ?_⟩
  · intro a b c h k
    unfold ltb at h k ⊢
    rw [decide_eq_true_eq] at h k ⊢
    by_cases hlt : cmpL ls a c < 0
    · exact hlt
    · have h1 : cmpL ls c a ≤ 0 := by rw [ord_neg ls a c]; omega
      have h2 := ord_trans (ls := ls) (s := b) (t := c) (u := a) (by omega) h1
      have h3 := ord_neg ls a b
      omega
  · intro a b c h k
    unfold ltb at h k ⊢
    rw [decide_eq_false_iff_not] at h k ⊢
    have h1 : cmpL ls a b ≤ 0 := by rw [ord_neg ls b a]; omega
    have h2 : cmpL ls b c ≤ 0 := by rw [ord_neg ls c b]; omega
    have h3 := ord_trans (ls := ls) h1 h2
    have h4 := ord_neg ls a c
    omega
  · intro a
    unfold ltb
    rw [ord_refl]; rfl

abbrev cv (Bc : Nat) : Value := .func (.func 52) #[] #[.pointer (some ⟨Bc, 0, none⟩)]

/-- What the comparison reads lies outside the row. -/
structure Cx (w1 : World) (blk Bc Bm k : Nat) (D : DataW Unit) (ls : List Lt) : Prop where
  box : w1.cell? ⟨Bc, 0, none⟩ = some (.map (some Bm))
  pos : PosIn w1 Bm k D ls
  tabs : Tabs w1
  nc : Bc ≠ blk
  nm : Bm ≠ blk
  n1 : 0 ≠ blk
  n2 : 1 ≠ blk

theorem Cx.cmp {w1 : World} {blk Bc Bm k : Nat} {D : DataW Unit} {ls : List Lt} (c : Cx w1 blk Bc Bm k D ls) {d : List ByteArray} (x y : ByteArray) (w0 : World) (h : Sw w1 blk d w0) :
    Calls Tryd.prog 52 #[.string x, .string y, .pointer (some ⟨Bc, 0, none⟩)] w0 (fun e w' => e = .returned (.int .i64 (cmpL ls x y)) ∧ Sw w1 blk d w') :=
  (collation1_any x y Bc Bm k D ls w0 (h.cellOther c.nc c.box) (h.posIn c.nm c.pos) ⟨fun b hb => h.cellOther c.n1 (c.tabs.1 b hb), fun i hi => ⟨h.cellOther c.n2 (c.tabs.2 i hi).1, h.cellOther c.n2 (c.tabs.2 i hi).2⟩⟩).mono fun _ _ ⟨h1, h2⟩ => ⟨h1, h.aft h2⟩

theorem isort_snoc (lt : ByteArray → ByteArray → Bool) (l : List ByteArray) (x : ByteArray) : isort lt (l ++ [x]) = insR lt x (isort lt l) := by
  unfold isort; rw [List.foldl_append]; rfl
theorem insR_nil (lt : ByteArray → ByteArray → Bool) (x : ByteArray) : insR lt x [] = [x] := rfl
theorem insR_snoc (lt : ByteArray → ByteArray → Bool) (x y : ByteArray) (l : List ByteArray) : insR lt x (l ++ [y]) = if lt x y then insR lt x l ++ [y] else l ++ [y, x] := by
  unfold insR
  rw [List.reverse_append, List.reverse_singleton, List.singleton_append, insV]
  cases lt x y <;> simp
theorem insV_len (lt : ByteArray → ByteArray → Bool) (x : ByteArray) : ∀ l, (insV lt x l).length = l.length + 1
  | [] => rfl
  | y :: l => by
    rw [insV]
    split
    · rw [List.length_cons, insV_len lt x l, List.length_cons]
    · rfl
theorem fold_len (lt : ByteArray → ByteArray → Bool) : ∀ (r acc : List ByteArray), (r.foldl (fun acc x => insR lt x acc) acc).length = acc.length + r.length
  | [], _ => rfl
  | x :: r, acc => by
    rw [List.foldl_cons, fold_len lt r]
    unfold insR
    rw [List.length_reverse, insV_len, List.length_reverse, List.length_cons]; omega
theorem isort_len (lt : ByteArray → ByteArray → Bool) (l : List ByteArray) : (isort lt l).length = l.length := by
  unfold isort; rw [fold_len]; simp

/-- Where the inner loop stands: x at place j. -/
def InsI (lt : ByteArray → ByteArray → Bool) (P M Q : List ByteArray) (k j : Nat) (d : List ByteArray) : Prop :=
  ∃ x S1 S2, M[k]? = some x ∧ j = P.length + S1.length ∧ S1.length ≤ k ∧ isort lt (M.take (k + 1)) = insR lt x S1 ++ S2 ∧ d = P ++ (S1 ++ (x :: (S2 ++ (M.drop (k + 1) ++ Q))))
def outD (lt : ByteArray → ByteArray → Bool) (P M Q : List ByteArray) (k : Nat) : List ByteArray := P ++ (isort lt (M.take k) ++ (M.drop k ++ Q))

theorem InsI.start (lt : ByteArray → ByteArray → Bool) (P M Q : List ByteArray) (k : Nat) (hk : k < M.length) : InsI lt P M Q k (P.length + k) (outD lt P M Q k) := by
  have hx : M[k]? = some M[k] := List.getElem?_eq_getElem hk
  refine ⟨_, isort lt (M.take k), [], hx, ?_, ?_, ?_, ?_⟩
  · rw [isort_len, List.length_take]; omega
  · rw [isort_len, List.length_take]; omega
  · rw [take_next hx, isort_snoc, List.append_nil]
  · unfold outD
    rw [drop_of_get hx]; simp only [List.nil_append, List.cons_append]
/-- It goes on: x comes before its neighbour. -/
theorem InsI.cases {lt : ByteArray → ByteArray → Bool} {P M Q : List ByteArray} {k j : Nat} {d : List ByteArray} (h : InsI lt P M Q k j d) (hj : P.length < j) :
    ∃ x y, d[j]? = some x ∧ d[j - 1]? = some y ∧ (lt x y = true → InsI lt P M Q k (j - 1) (exch d j (j - 1) x y)) ∧ (lt x y = false → d = outD lt P M Q (k + 1)) := by
  obtain ⟨x, S1, S2, hx, e1, e2, e3, e4⟩ := h
  have hne : S1 ≠ [] := fun e => by rw [e] at e1; simp at e1; omega
  obtain ⟨S, y, rfl⟩ : ∃ S y, S1 = S ++ [y] := ⟨S1.dropLast, S1.getLast hne, (List.dropLast_concat_getLast hne).symm⟩
  rw [List.length_append] at e1 e2
  simp at e1 e2
  have hd : d = (P ++ S) ++ y :: ([] ++ x :: (S2 ++ (M.drop (k + 1) ++ Q))) := by rw [e4]; simp
  refine ⟨x, y, ?_, ?_, ?_, ?_⟩
  · rw [e4, ← List.append_assoc]
    exact at_app _ _ _ _ (by simp; omega)
  · rw [hd]
    exact at_app _ _ _ _ (by rw [List.length_append]; omega)
  · intro hl
    rw [insR_snoc, hl, if_pos rfl] at e3
    refine ⟨x, S, y :: S2, hx, by omega, by omega, by rw [e3]; simp, ?_⟩
    rw [hd, exch_app' (P ++ S) [] (S2 ++ (M.drop (k + 1) ++ Q)) y x (j - 1) j (by rw [List.length_append]; omega) (by rw [List.length_append]; simp; omega)]
    simp
  · intro hl
    rw [insR_snoc, hl, if_neg (by simp)] at e3
    unfold outD
    rw [e4, e3]
    simp
theorem InsI.done {lt : ByteArray → ByteArray → Bool} {P M Q : List ByteArray} {k j : Nat} {d : List ByteArray} (h : InsI lt P M Q k j d) (hj : ¬ P.length < j) : d = outD lt P M Q (k + 1) := by
  obtain ⟨x, S1, S2, hx, e1, e2, e3, e4⟩ := h
  have hz : S1 = [] := List.length_eq_zero_iff.1 (by omega)
  subst hz
  unfold outD
  rw [e4, e3, insR_nil]
  simp
theorem InsI.len {lt : ByteArray → ByteArray → Bool} {P M Q : List ByteArray} {k j : Nat} {d : List ByteArray} (h : InsI lt P M Q k j d) : P.length ≤ j ∧ j ≤ P.length + k := by
  obtain ⟨x, S1, S2, hx, e1, e2, e3, e4⟩ := h
  omega

set_option maxRecDepth 100000 in
set_option maxHeartbeats 3200000 in
theorem insertion_any (w1 : World) (blk Bc Bm kk : Nat) (D : DataW Unit) (ls : List Lt) (c : Cx w1 blk Bc Bm kk D ls) (n cap a b : Nat) (P M Q : List ByteArray) (W : World) (h : Sw w1 blk (P ++ (M ++ Q)) W)
    (hn : n = P.length + M.length + Q.length) (ha : a = P.length) (hb : b = P.length + M.length) (h1000 : n ≤ 1000) :
    Calls Tryd.prog 60 #[.slice (some ⟨blk, 0, none⟩) n cap, .int .i64 (a : Nat), .int .i64 (b : Nat), cv Bc] W (UnitSw w1 blk (P ++ (isort (ltb ls) M ++ Q))) := by
  have hab : a ≤ b := by omega
  have hbn : b ≤ n := by omega
  have mixed : Tryd.prog.follows .mixedOrders = true := by kernel_rfl
  by_cases hM : M.length ≤ 1
  · have hba : ¬ (a : Int) + 1 < (b : Int) := by omega
    have he : isort (ltb ls) M = M := by
      match M, hM with
      | [], _ => rfl
      | [x], _ => rfl
    have HE := Lib.hid he
    have HS := Lib.hid h
    clear he h hn ha hb
    go_enter Tryd.func60, Tryd.ntmps60
    go_wp2
    refine wp_loop_rounds 1 ?_
    rw [rounds_succ]
    go_wp2
    go_end0
    exact ⟨rfl, by rw [HE.out]; exact HS.out⟩
  obtain ⟨m, hm⟩ : ∃ m, m = M.length := ⟨_, rfl⟩
  have hbm : b = a + m := by omega
  have HBM := Lib.hid hbm
  have h1 : outD (ltb ls) P M Q 1 = P ++ (M ++ Q) := by
    unfold outD
    match M, hM with
    | x :: M, _ => simp [isort, insR_nil]
  rw [← h1] at h
  have H0 := Lib.hid h
  have HM := Lib.hid hm
  have HA := Lib.hid ha
  have h2m : 2 ≤ m := by omega
  clear h hn hb h1 hm ha hM hbm
  go_enter Tryd.func60, Tryd.ntmps60
  go_wp2
  go_loopw [8] (fun i wr => ∃ k i0 : Nat, 1 ≤ k ∧ k ≤ m ∧ i0 = a + k ∧ i = .int .i64 (i0 : Nat) ∧ Sw w1 blk (outD (ltb ls) P M Q k) wr) (fun i _ => b - (intOf i).toNat)
  case atStart => exact ⟨1, a + 1, Nat.le_refl _, by omega, rfl, by go_num, H0.out⟩
  case round =>
    clear H0
    obtain ⟨k, i0, hk1, hkm, hi0, rfl, hs⟩ := hrel
    have HS := Lib.hid hs
    clear hs
    by_cases hlt : k < m
    · have hlt' : (i0 : Int) < (b : Int) := by have := HBM.out; omega
      have hst := InsI.start (ltb ls) P M Q k (by rw [← HM.out]; exact hlt)
      rw [← HA.out] at hst
      rw [← hi0] at hst
      have HST := Lib.hid hst
      have HI0 := Lib.hid hi0
      have hib : i0 ≤ 1000 := by have := HBM.out; omega
      clear hst hi0
      go_wp2
      go_loopw [9] (fun jv wr => ∃ (j : Nat) (d : List ByteArray), jv = .int .i64 (j : Nat) ∧ InsI (ltb ls) P M Q k j d ∧ Sw w1 blk d wr) (fun jv _ => (intOf jv).toNat)
      case atStart => exact ⟨i0, _, rfl, HST.out, HS.out⟩
      case round =>
        clear HST HS
        obtain ⟨j, d, rfl, hI, hs⟩ := hrel
        have hle := hI.len
        rw [← HA.out] at hle
        have hjn : j < n := by have := HI0.out; have := HBM.out; omega
        have hj1000 : j ≤ 1000 := by omega
        by_cases hj : a < j
        · obtain ⟨x, y, hx, hy, hgo, hstop⟩ := hI.cases (by rw [← HA.out]; exact hj)
          have hcmp := c.cmp (d := d) x y
          have hKp : ∀ w', Sw w1 blk d w' → (Sw w1 blk d w' ∧ w'.cell? ⟨blk, j, none⟩ = some (.string x) ∧ w'.cell? ⟨blk, j - 1, none⟩ = some (.string y)) := fun w' h => ⟨h, h.cells _ _ hx, h.cells _ _ hy⟩
          have HX := Lib.hid hx
          have HY := Lib.hid hy
          have HG := Lib.hid hgo
          have HP := Lib.hid hstop
          clear hx hy hgo hstop hI
          have g1 : (a : Int) < (j : Int) := by omega
          have g2 : (0 : Int) ≤ (j : Int) := by omega
          have g3 : (j : Int) < (n : Int) := by omega
          have g4 : (1 : Int) ≤ (j : Int) := by omega
          have g5 : (0 : Int) ≤ (j : Int) - 1 := by omega
          have g6 : (j : Int) - 1 < (n : Int) := by omega
          have g7 : ((j : Int) - 1).toNat = j - 1 := by omega
          have g8 : IntKind.i64.wrap ((j : Int) - 1) = (j : Int) - 1 := wrap_small _ (by omega) (by omega)
          have g9 : 1 ≤ j := by omega
          cases hl : ltb ls x y
          · have hc : ¬ cmpL ls x y < 0 := of_decide_eq_false hl
            generalize cmpL ls x y = C at *
            have hdn := HP.out hl
            go_wp2
            refine wp_region_held_drew (S := fun w' => Sw w1 blk d w' ∧ w'.cell? ⟨blk, j, none⟩ = some (.string x) ∧ w'.cell? ⟨blk, j - 1, none⟩ = some (.string y)) (by kernel_rfl) (by first | exact hKp _ (by assumption) | exact hKp _ (Sw.drew (by assumption))) (fun hHeld => ?_)
            refine take_on (i := 0) (v := ?v35) rfl (by kernel_rfl) (by kernel_rfl) (by kernel_rfl) (fun _ _ _ h => h) (by rfl) (by assumption) ?y35 ?_
            case y35 => (intro w hSw; (try dsimp only at hSw); go_simp; (try with_reducible rfl))
            try simp only [Act.put, List.setIfInBounds_toArray, List.set_cons_zero, List.set_cons_succ]
            refine take_on (i := 1) (v := ?v36) rfl (by kernel_rfl) (by kernel_rfl) (by kernel_rfl) (fun _ _ _ h => h) (by rfl) (by assumption) ?y36 ?_
            case y36 => (intro w hSw; (try dsimp only at hSw); go_simp; (try with_reducible rfl))
            try simp only [Act.put, List.setIfInBounds_toArray, List.set_cons_zero, List.set_cons_succ]
            refine take_on (i := 2) (v := ?v37) rfl (by kernel_rfl) (by kernel_rfl) (by kernel_rfl) (fun _ _ _ h => h) (by rfl) (by assumption) ?y37 ?_
            case y37 => (intro w hSw; (try dsimp only at hSw); go_simp; (try with_reducible rfl))
            try simp only [Act.put, List.setIfInBounds_toArray, List.set_cons_zero, List.set_cons_succ]
            refine take_on (i := 3) (v := ?v38) rfl (by kernel_rfl) (by kernel_rfl) (by kernel_rfl) (fun _ _ _ h => h) (by rfl) (by assumption) ?y38 ?_
            case y38 => (intro w hSw; (try dsimp only at hSw); go_simp; (try with_reducible rfl))
            try simp only [Act.put, List.setIfInBounds_toArray, List.set_cons_zero, List.set_cons_succ]
            refine take_on (i := 4) (v := ?v39) rfl (by kernel_rfl) (by kernel_rfl) (by kernel_rfl) (fun _ _ _ h => h) (by rfl) (by assumption) ?y39 ?_
            case y39 => (intro w hSw; (try dsimp only at hSw); go_simp; (try with_reducible rfl))
            try simp only [Act.put, List.setIfInBounds_toArray, List.set_cons_zero, List.set_cons_succ]
            refine take_on (i := 5) (v := ?v40) rfl (by kernel_rfl) (by kernel_rfl) (by kernel_rfl) (fun _ _ _ h => h) (by rfl) (by assumption) ?y40 ?_
            case y40 => (intro w hSw; (try dsimp only at hSw); go_simp; (try with_reducible rfl))
            try simp only [Act.put, List.setIfInBounds_toArray, List.set_cons_zero, List.set_cons_succ]
            refine take_on (i := 6) (v := ?v41) rfl (by kernel_rfl) (by kernel_rfl) (by kernel_rfl) (fun _ _ _ h => h) (by rfl) (by assumption) ?y41 ?_
            case y41 => (intro w hSw; (try dsimp only at hSw); go_simp; (try with_reducible rfl))
            try simp only [Act.put, List.setIfInBounds_toArray, List.set_cons_zero, List.set_cons_succ]
            refine take_on (i := 7) (v := ?v42) rfl (by kernel_rfl) (by kernel_rfl) (by kernel_rfl) (fun _ _ _ h => h) (by rfl) (by assumption) ?y42 ?_
            case y42 => (intro w hSw; (try dsimp only at hSw); go_simp; (try with_reducible rfl))
            try simp only [Act.put, List.setIfInBounds_toArray, List.set_cons_zero, List.set_cons_succ]
            refine take_on (i := 8) (v := ?v43) rfl (by kernel_rfl) (by kernel_rfl) (by kernel_rfl) (fun _ _ _ h => h) (by rfl) (by assumption) ?y43 ?_
            case y43 => (intro w hSw; (try dsimp only at hSw); go_simp; (try with_reducible rfl))
            try simp only [Act.put, List.setIfInBounds_toArray, List.set_cons_zero, List.set_cons_succ]
            refine take_on (i := 9) (v := ?v44) rfl (by kernel_rfl) (by kernel_rfl) (by kernel_rfl) (fun _ _ _ h => h) (by rfl) (by assumption) ?y44 ?_
            case y44 => (intro w hSw; (try dsimp only at hSw); go_simp; (try with_reducible rfl))
            try simp only [Act.put, List.setIfInBounds_toArray, List.set_cons_zero, List.set_cons_succ]
            refine take_on (i := 10) (v := ?v45) rfl (by kernel_rfl) (by kernel_rfl) (by kernel_rfl) (fun _ _ _ h => h) (by rfl) (by assumption) ?y45 ?_
            case y45 => (intro w hSw; (try dsimp only at hSw); go_simp; (try with_reducible rfl))
            try simp only [Act.put, List.setIfInBounds_toArray, List.set_cons_zero, List.set_cons_succ]
            refine take_on (i := 11) (v := ?v46) rfl (by kernel_rfl) (by kernel_rfl) (by kernel_rfl) (fun _ _ _ h => h) (by rfl) (by assumption) ?y46 ?_
            case y46 => (intro w hSw; (try dsimp only at hSw); go_simp; (try with_reducible rfl))
            try simp only [Act.put, List.setIfInBounds_toArray, List.set_cons_zero, List.set_cons_succ]
            refine take_on (i := 12) (v := ?v47) rfl (by kernel_rfl) (by kernel_rfl) (by kernel_rfl) (fun _ _ _ h => h) (by rfl) (by assumption) ?y47 ?_
            case y47 => (intro w hSw; (try dsimp only at hSw); go_simp; (try with_reducible rfl))
            try simp only [Act.put, List.setIfInBounds_toArray, List.set_cons_zero, List.set_cons_succ]
            refine take_on (i := 13) (v := ?v48) rfl (by kernel_rfl) (by kernel_rfl) (by kernel_rfl) (fun _ _ _ h => h) (by rfl) (by assumption) ?y48 ?_
            case y48 => (intro w hSw; (try dsimp only at hSw); go_simp; (try with_reducible rfl))
            try simp only [Act.put, List.setIfInBounds_toArray, List.set_cons_zero, List.set_cons_succ]
            refine one_ready (i := 14) rfl (by kernel_rfl) (by rfl) (fun K hK => ?_)
            go_simp
            refine (hcmp _ hHeld.1).mono ?_
            rintro e w' ⟨rfl, N⟩
            try go_simp
            refine hK.out _ _ (by first | exact hKp _ (by assumption) | exact hKp _ (Sw.drew (by assumption))) (fun hHeld => ?_)
            clear hK K
            try simp only [Act.put, List.setIfInBounds_toArray, List.set_cons_zero, List.set_cons_succ]
            refine take_on (i := 15) (v := ?v50) rfl (by kernel_rfl) (by kernel_rfl) (by kernel_rfl) (fun _ _ _ h => h) (by rfl) (by assumption) ?y50 ?_
            case y50 => (intro w hSw; (try dsimp only at hSw); go_simp; (try with_reducible rfl))
            try simp only [Act.put, List.setIfInBounds_toArray, List.set_cons_zero, List.set_cons_succ]
            refine take_on (i := 16) (v := ?v51) rfl (by kernel_rfl) (by kernel_rfl) (by kernel_rfl) (fun _ _ _ h => h) (by rfl) (by assumption) ?y51 ?_
            case y51 => (intro w hSw; (try dsimp only at hSw); go_simp; (try with_reducible rfl))
            try simp only [Act.put, List.setIfInBounds_toArray, List.set_cons_zero, List.set_cons_succ]
            refine wpAnyH_done (by kernel_rfl) ?_ _
            have hi1 : Value.int .i64 ((i0 : Int) + 1) = .int .i64 ((i0 + 1 : Nat) : Int) := by go_num
            have HI1 := Lib.hid hi1
            clear hi1
            go_wp2
            go_roundw
            case rel => exact ⟨k + 1, i0 + 1, by omega, by omega, by have := HI0.out; omega, HI1.out, by rw [← hdn]; exact hHeld.1⟩
            case measure => have := HI0.out; have := HBM.out; simp [intOf]; omega
          · have hc : cmpL ls x y < 0 := of_decide_eq_true hl
            generalize cmpL ls x y = C at *
            have hnx := HG.out hl
            have HNX := Lib.hid hnx
            clear hnx
            go_wp2
            refine wp_region_held_drew (S := fun w' => Sw w1 blk d w' ∧ w'.cell? ⟨blk, j, none⟩ = some (.string x) ∧ w'.cell? ⟨blk, j - 1, none⟩ = some (.string y)) (by kernel_rfl) (by first | exact hKp _ (by assumption) | exact hKp _ (Sw.drew (by assumption))) (fun hHeld => ?_)
            refine take_on (i := 0) (v := ?v52) rfl (by kernel_rfl) (by kernel_rfl) (by kernel_rfl) (fun _ _ _ h => h) (by rfl) (by assumption) ?y52 ?_
            case y52 => (intro w hSw; (try dsimp only at hSw); go_simp; (try with_reducible rfl))
            try simp only [Act.put, List.setIfInBounds_toArray, List.set_cons_zero, List.set_cons_succ]
            refine take_on (i := 1) (v := ?v53) rfl (by kernel_rfl) (by kernel_rfl) (by kernel_rfl) (fun _ _ _ h => h) (by rfl) (by assumption) ?y53 ?_
            case y53 => (intro w hSw; (try dsimp only at hSw); go_simp; (try with_reducible rfl))
            try simp only [Act.put, List.setIfInBounds_toArray, List.set_cons_zero, List.set_cons_succ]
            refine take_on (i := 2) (v := ?v54) rfl (by kernel_rfl) (by kernel_rfl) (by kernel_rfl) (fun _ _ _ h => h) (by rfl) (by assumption) ?y54 ?_
            case y54 => (intro w hSw; (try dsimp only at hSw); go_simp; (try with_reducible rfl))
            try simp only [Act.put, List.setIfInBounds_toArray, List.set_cons_zero, List.set_cons_succ]
            refine take_on (i := 3) (v := ?v55) rfl (by kernel_rfl) (by kernel_rfl) (by kernel_rfl) (fun _ _ _ h => h) (by rfl) (by assumption) ?y55 ?_
            case y55 => (intro w hSw; (try dsimp only at hSw); go_simp; (try with_reducible rfl))
            try simp only [Act.put, List.setIfInBounds_toArray, List.set_cons_zero, List.set_cons_succ]
            refine take_on (i := 4) (v := ?v56) rfl (by kernel_rfl) (by kernel_rfl) (by kernel_rfl) (fun _ _ _ h => h) (by rfl) (by assumption) ?y56 ?_
            case y56 => (intro w hSw; (try dsimp only at hSw); go_simp; (try with_reducible rfl))
            try simp only [Act.put, List.setIfInBounds_toArray, List.set_cons_zero, List.set_cons_succ]
            refine take_on (i := 5) (v := ?v57) rfl (by kernel_rfl) (by kernel_rfl) (by kernel_rfl) (fun _ _ _ h => h) (by rfl) (by assumption) ?y57 ?_
            case y57 => (intro w hSw; (try dsimp only at hSw); go_simp; (try with_reducible rfl))
            try simp only [Act.put, List.setIfInBounds_toArray, List.set_cons_zero, List.set_cons_succ]
            refine take_on (i := 6) (v := ?v58) rfl (by kernel_rfl) (by kernel_rfl) (by kernel_rfl) (fun _ _ _ h => h) (by rfl) (by assumption) ?y58 ?_
            case y58 => (intro w hSw; (try dsimp only at hSw); go_simp; (try with_reducible rfl))
            try simp only [Act.put, List.setIfInBounds_toArray, List.set_cons_zero, List.set_cons_succ]
            refine take_on (i := 7) (v := ?v59) rfl (by kernel_rfl) (by kernel_rfl) (by kernel_rfl) (fun _ _ _ h => h) (by rfl) (by assumption) ?y59 ?_
            case y59 => (intro w hSw; (try dsimp only at hSw); go_simp; (try with_reducible rfl))
            try simp only [Act.put, List.setIfInBounds_toArray, List.set_cons_zero, List.set_cons_succ]
            refine take_on (i := 8) (v := ?v60) rfl (by kernel_rfl) (by kernel_rfl) (by kernel_rfl) (fun _ _ _ h => h) (by rfl) (by assumption) ?y60 ?_
            case y60 => (intro w hSw; (try dsimp only at hSw); go_simp; (try with_reducible rfl))
            try simp only [Act.put, List.setIfInBounds_toArray, List.set_cons_zero, List.set_cons_succ]
            refine take_on (i := 9) (v := ?v61) rfl (by kernel_rfl) (by kernel_rfl) (by kernel_rfl) (fun _ _ _ h => h) (by rfl) (by assumption) ?y61 ?_
            case y61 => (intro w hSw; (try dsimp only at hSw); go_simp; (try with_reducible rfl))
            try simp only [Act.put, List.setIfInBounds_toArray, List.set_cons_zero, List.set_cons_succ]
            refine take_on (i := 10) (v := ?v62) rfl (by kernel_rfl) (by kernel_rfl) (by kernel_rfl) (fun _ _ _ h => h) (by rfl) (by assumption) ?y62 ?_
            case y62 => (intro w hSw; (try dsimp only at hSw); go_simp; (try with_reducible rfl))
            try simp only [Act.put, List.setIfInBounds_toArray, List.set_cons_zero, List.set_cons_succ]
            refine take_on (i := 11) (v := ?v63) rfl (by kernel_rfl) (by kernel_rfl) (by kernel_rfl) (fun _ _ _ h => h) (by rfl) (by assumption) ?y63 ?_
            case y63 => (intro w hSw; (try dsimp only at hSw); go_simp; (try with_reducible rfl))
            try simp only [Act.put, List.setIfInBounds_toArray, List.set_cons_zero, List.set_cons_succ]
            refine take_on (i := 12) (v := ?v64) rfl (by kernel_rfl) (by kernel_rfl) (by kernel_rfl) (fun _ _ _ h => h) (by rfl) (by assumption) ?y64 ?_
            case y64 => (intro w hSw; (try dsimp only at hSw); go_simp; (try with_reducible rfl))
            try simp only [Act.put, List.setIfInBounds_toArray, List.set_cons_zero, List.set_cons_succ]
            refine take_on (i := 13) (v := ?v65) rfl (by kernel_rfl) (by kernel_rfl) (by kernel_rfl) (fun _ _ _ h => h) (by rfl) (by assumption) ?y65 ?_
            case y65 => (intro w hSw; (try dsimp only at hSw); go_simp; (try with_reducible rfl))
            try simp only [Act.put, List.setIfInBounds_toArray, List.set_cons_zero, List.set_cons_succ]
            refine one_ready (i := 14) rfl (by kernel_rfl) (by rfl) (fun K hK => ?_)
            go_simp
            refine (hcmp _ hHeld.1).mono ?_
            rintro e w' ⟨rfl, N⟩
            try go_simp
            refine hK.out _ _ (by first | exact hKp _ (by assumption) | exact hKp _ (Sw.drew (by assumption))) (fun hHeld => ?_)
            clear hK K
            try simp only [Act.put, List.setIfInBounds_toArray, List.set_cons_zero, List.set_cons_succ]
            refine take_on (i := 15) (v := ?v67) rfl (by kernel_rfl) (by kernel_rfl) (by kernel_rfl) (fun _ _ _ h => h) (by rfl) (by assumption) ?y67 ?_
            case y67 => (intro w hSw; (try dsimp only at hSw); go_simp; (try with_reducible rfl))
            try simp only [Act.put, List.setIfInBounds_toArray, List.set_cons_zero, List.set_cons_succ]
            refine take_on (i := 16) (v := ?v68) rfl (by kernel_rfl) (by kernel_rfl) (by kernel_rfl) (fun _ _ _ h => h) (by rfl) (by assumption) ?y68 ?_
            case y68 => (intro w hSw; (try dsimp only at hSw); go_simp; (try with_reducible rfl))
            try simp only [Act.put, List.setIfInBounds_toArray, List.set_cons_zero, List.set_cons_succ]
            refine wpAnyH_done (by kernel_rfl) ?_ _
            obtain ⟨hsw, ca, cb⟩ := hHeld
            clear hKp hcmp
            have fa := hsw.thaw j (List.getElem?_eq_some_iff.1 HX.out).1
            have fb := hsw.thaw (j - 1) (List.getElem?_eq_some_iff.1 HY.out).1
            have cc : (w'.setCell ⟨blk, j, none⟩ (.string y)).cell? ⟨blk, j - 1, none⟩ = some (.string y) := by
              rw [World.cell?_setCell_other _ _ _ _ (by intro e; simp only [Addr.mk.injEq] at e; omega)]; exact cb
            have HW := Lib.hid (hsw.swap HX.out HY.out (show j ≠ j - 1 by omega)).drew
            have hjv : Value.int .i64 ((j : Int) - 1) = .int .i64 ((j - 1 : Nat) : Int) := by congr 1; omega
            have HJV := Lib.hid hjv
            clear hsw hjv
            go_wp2
            go_big_region_o
            clear ca cb cc fa fb g7 g8
            generalize ((w'.setCell ⟨blk, j, none⟩ (.string y)).setCell ⟨blk, j - 1, none⟩ (.string x)).drew = w3 at HW ⊢
            go_wp2
            go_roundw
            case rel => exact ⟨j - 1, _, HJV.out, HNX.out, HW.out⟩
            case measure => simp [intOf]; omega
        · have g1 : ¬ (a : Int) < (j : Int) := by omega
          have hdn := hI.done (by rw [← HA.out]; exact hj)
          have hi1 : Value.int .i64 ((i0 : Int) + 1) = .int .i64 ((i0 + 1 : Nat) : Int) := by go_num
          have HI1 := Lib.hid hi1
          clear hi1 hI
          go_wp2
          refine wp_region_held_drew (S := fun w' => Sw w1 blk d w') (by kernel_rfl) (by first | assumption | exact Sw.drew (by assumption)) (fun hHeld => ?_)
          refine take_on (i := 0) (v := ?v18) rfl (by kernel_rfl) (by kernel_rfl) (by kernel_rfl) (fun _ _ _ h => h) (by rfl) (by assumption) ?y18 ?_
          case y18 => (intro w hSw; (try dsimp only at hSw); go_simp; (try with_reducible rfl))
          try simp only [Act.put, List.setIfInBounds_toArray, List.set_cons_zero, List.set_cons_succ]
          refine take_on (i := 1) (v := ?v19) rfl (by kernel_rfl) (by kernel_rfl) (by kernel_rfl) (fun _ _ _ h => h) (by rfl) (by assumption) ?y19 ?_
          case y19 => (intro w hSw; (try dsimp only at hSw); go_simp; (try with_reducible rfl))
          try simp only [Act.put, List.setIfInBounds_toArray, List.set_cons_zero, List.set_cons_succ]
          refine take_on (i := 2) (v := ?v20) rfl (by kernel_rfl) (by kernel_rfl) (by kernel_rfl) (fun _ _ _ h => h) (by rfl) (by assumption) ?y20 ?_
          case y20 => (intro w hSw; (try dsimp only at hSw); go_simp; (try with_reducible rfl))
          try simp only [Act.put, List.setIfInBounds_toArray, List.set_cons_zero, List.set_cons_succ]
          refine take_on (i := 3) (v := ?v21) rfl (by kernel_rfl) (by kernel_rfl) (by kernel_rfl) (fun _ _ _ h => h) (by rfl) (by assumption) ?y21 ?_
          case y21 => (intro w hSw; (try dsimp only at hSw); go_simp; (try with_reducible rfl))
          try simp only [Act.put, List.setIfInBounds_toArray, List.set_cons_zero, List.set_cons_succ]
          refine take_off (i := 4) rfl (by kernel_rfl) (by kernel_rfl) (by kernel_rfl) (fun _ _ _ h => h) (by rfl) (by assumption) ?_
          try simp only [Act.put, List.setIfInBounds_toArray, List.set_cons_zero, List.set_cons_succ]
          refine take_off (i := 5) rfl (by kernel_rfl) (by kernel_rfl) (by kernel_rfl) (fun _ _ _ h => h) (by rfl) (by assumption) ?_
          try simp only [Act.put, List.setIfInBounds_toArray, List.set_cons_zero, List.set_cons_succ]
          refine take_off (i := 6) rfl (by kernel_rfl) (by kernel_rfl) (by kernel_rfl) (fun _ _ _ h => h) (by rfl) (by assumption) ?_
          try simp only [Act.put, List.setIfInBounds_toArray, List.set_cons_zero, List.set_cons_succ]
          refine take_off (i := 7) rfl (by kernel_rfl) (by kernel_rfl) (by kernel_rfl) (fun _ _ _ h => h) (by rfl) (by assumption) ?_
          try simp only [Act.put, List.setIfInBounds_toArray, List.set_cons_zero, List.set_cons_succ]
          refine take_off (i := 8) rfl (by kernel_rfl) (by kernel_rfl) (by kernel_rfl) (fun _ _ _ h => h) (by rfl) (by assumption) ?_
          try simp only [Act.put, List.setIfInBounds_toArray, List.set_cons_zero, List.set_cons_succ]
          refine take_off (i := 9) rfl (by kernel_rfl) (by kernel_rfl) (by kernel_rfl) (fun _ _ _ h => h) (by rfl) (by assumption) ?_
          try simp only [Act.put, List.setIfInBounds_toArray, List.set_cons_zero, List.set_cons_succ]
          refine take_off (i := 10) rfl (by kernel_rfl) (by kernel_rfl) (by kernel_rfl) (fun _ _ _ h => h) (by rfl) (by assumption) ?_
          try simp only [Act.put, List.setIfInBounds_toArray, List.set_cons_zero, List.set_cons_succ]
          refine take_off (i := 11) rfl (by kernel_rfl) (by kernel_rfl) (by kernel_rfl) (fun _ _ _ h => h) (by rfl) (by assumption) ?_
          try simp only [Act.put, List.setIfInBounds_toArray, List.set_cons_zero, List.set_cons_succ]
          refine take_off (i := 12) rfl (by kernel_rfl) (by kernel_rfl) (by kernel_rfl) (fun _ _ _ h => h) (by rfl) (by assumption) ?_
          try simp only [Act.put, List.setIfInBounds_toArray, List.set_cons_zero, List.set_cons_succ]
          refine take_off (i := 13) rfl (by kernel_rfl) (by kernel_rfl) (by kernel_rfl) (fun _ _ _ h => h) (by rfl) (by assumption) ?_
          try simp only [Act.put, List.setIfInBounds_toArray, List.set_cons_zero, List.set_cons_succ]
          refine take_off (i := 14) rfl (by kernel_rfl) (by kernel_rfl) (by kernel_rfl) (fun _ _ _ h => h) (by rfl) (by assumption) ?_
          try simp only [Act.put, List.setIfInBounds_toArray, List.set_cons_zero, List.set_cons_succ]
          refine take_off (i := 15) rfl (by kernel_rfl) (by kernel_rfl) (by kernel_rfl) (fun _ _ _ h => h) (by rfl) (by assumption) ?_
          try simp only [Act.put, List.setIfInBounds_toArray, List.set_cons_zero, List.set_cons_succ]
          refine take_on (i := 16) (v := ?v34) rfl (by kernel_rfl) (by kernel_rfl) (by kernel_rfl) (fun _ _ _ h => h) (by rfl) (by assumption) ?y34 ?_
          case y34 => (intro w hSw; (try dsimp only at hSw); go_simp; (try with_reducible rfl))
          try simp only [Act.put, List.setIfInBounds_toArray, List.set_cons_zero, List.set_cons_succ]
          refine wpAnyH_done (by kernel_rfl) ?_ _
          go_wp2
          go_roundw
          case rel => exact ⟨k + 1, i0 + 1, by omega, by omega, by have := HI0.out; omega, HI1.out, by rw [← hdn]; exact hHeld⟩
          case measure => have := HI0.out; have := HBM.out; simp [intOf]; omega
    · obtain rfl : k = m := by omega
      have hlt' : ¬ (i0 : Int) < (b : Int) := by have := HBM.out; omega
      clear hi0
      go_wp2
      go_end0
      refine ⟨rfl, ?_⟩
      have := HS.out
      unfold outD at this
      rw [HM.out, List.take_length, List.drop_length, List.nil_append] at this
      exact this
end Go.Proofs.YtgnhkacndmdfgaaDoor
