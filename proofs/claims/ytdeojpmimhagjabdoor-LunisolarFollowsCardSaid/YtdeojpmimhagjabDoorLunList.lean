/-
  Months of the program and of the reference: a slice of dates in memory of its own. Conditions: none.
-/
import Derived.Test.YtdeojpmimhagjabDoorLunMon
import Derived.OwnWalk
import Derived.Laws.AppendOwn
import Derived.Laws.MakeOwn
namespace Go.Proofs.YtdeojpmimhagjabDoor
open Go.RowKit
open LunPlain

/-- The cells of the first days of months (number, mark) of the year y. -/
def flatM (y : Int) : List (Int × Bool) → List Value
  | [] => []
  | f :: l => .int .i64 2 :: .int .i64 y :: .int .i64 f.1 :: .int .i64 1 :: .bool f.2 :: flatM y l
theorem flatM_append (y : Int) : ∀ a b : List (Int × Bool), flatM y (a ++ b) = flatM y a ++ flatM y b
  | [], _ => rfl
  | f :: a, b => by simp [flatM, flatM_append y a b]
theorem flatM_get (y : Int) : ∀ (a : List (Int × Bool)) (i : Nat) (x : Int × Bool), a[i]? = some x → (flatM y a)[i * 5]? = some (.int .i64 2) ∧ (flatM y a)[i * 5 + 1]? = some (.int .i64 y) ∧ (flatM y a)[i * 5 + 2]? = some (.int .i64 x.1) ∧ (flatM y a)[i * 5 + 3]? = some (.int .i64 1) ∧ (flatM y a)[i * 5 + 4]? = some (.bool x.2)
  | z :: a, 0, x, h => by simp at h; subst h; exact ⟨rfl, rfl, rfl, rfl, rfl⟩
  | z :: a, i + 1, x, h => by
    have := flatM_get y a i x (by simpa using h)
    rw [show (i + 1) * 5 = i * 5 + 1 + 1 + 1 + 1 + 1 from by omega]
    exact this
theorem flatM_one (y : Int) : ∀ (a : List (Int × Bool)), ∀ u ∈ flatM y a, u.oneCell' = true
  | [], u, h => by cases h
  | f :: a, u, h => by
    simp only [flatM, List.mem_cons] at h
    rcases h with rfl | rfl | rfl | rfl | rfl | h
    · rfl
    · rfl
    · rfl
    · rfl
    · rfl
    · exact flatM_one y a u h
theorem one_cellsM (w : World) (y : Int) (x : Int × Bool) {H : Nat} (h : w.heap.size = H) : ∀ j u, (flatM y [x])[j]? = some u → (w.alloc (.cells #[.int .i64 2, .int .i64 y, .int .i64 (x.1), .int .i64 1, .bool (x.2)] 34)).cell? ((⟨H, 0, none⟩ : Addr).add j) = some u := by
  subst h
  intro j u hj
  match j, hj with
  | 0, hj => simp [flatM] at hj; subst hj; simp [Addr.add]
  | 1, hj => simp [flatM] at hj; subst hj; simp [Addr.add]
  | 2, hj => simp [flatM] at hj; subst hj; simp [Addr.add]
  | 3, hj => simp [flatM] at hj; subst hj; simp [Addr.add]
  | 4, hj => simp [flatM] at hj; subst hj; simp [Addr.add]
  | j + 5, hj => simp [flatM] at hj

/-- The first n months of a year of the kind b. -/
def mlist (b : Bool) (n : Nat) : List (Int × Bool) := (List.range n).map fun k : Nat => (mo b k, ml b k)
theorem mlist_succ (b : Bool) (n : Nat) : mlist b (n + 1) = mlist b n ++ [(mo b n, ml b n)] := by simp [mlist, List.range_succ]
theorem mlist_get (b : Bool) {n k : Nat} (h : k < n) : (mlist b n)[k]? = some (mo b k, ml b k) := by simp [mlist, h]
/-- The number of months. -/
def nmN (b : Bool) : Nat := if b = true then 13 else 12
theorem nmN_nm (b : Bool) : (nmN b : Int) = nm b := by cases b <;> rfl
/-- The number of entries behind the month i. -/
def cnt (b : Bool) (i : Nat) : Nat := if b = true ∧ 6 ≤ i then i + 1 else i
theorem cnt_zero (b : Bool) : cnt b 0 = 0 := by cases b <;> rfl
theorem cnt_all (b : Bool) : cnt b 12 = nmN b := by cases b <;> rfl
theorem cnt_le (b : Bool) (i : Nat) : cnt b i ≤ i + 1 := by unfold cnt; split <;> omega
theorem cnt_step (b : Bool) (i : Nat) (h : ¬ (i = 5 ∧ b = true)) : cnt b (i + 1) = cnt b i + 1 ∧ mo b (cnt b i : Nat) = (i : Int) + 1 ∧ ml b (cnt b i : Nat) = false := by
  cases b
  · simp [cnt, mo, ml]
  · by_cases g : 6 ≤ i
    · have e1 : cnt true i = i + 1 := if_pos ⟨rfl, g⟩
      have e2 : cnt true (i + 1) = i + 1 + 1 := if_pos ⟨rfl, by omega⟩
      rw [e1, e2]
      refine ⟨rfl, ?_, ?_⟩
      · unfold mo; rw [if_pos ⟨rfl, by omega⟩]; omega
      · unfold ml; simp; omega
    · have h5 : i ≠ 5 := fun e => h ⟨e, rfl⟩
      have e1 : cnt true i = i := if_neg (fun k => g k.2)
      have e2 : cnt true (i + 1) = i + 1 := if_neg (fun k => by have := k.2; omega)
      rw [e1, e2]
      refine ⟨rfl, ?_, ?_⟩
      · unfold mo; rw [if_neg (fun k => by have := k.2; omega)]
      · unfold ml; simp; omega
theorem cnt_five : cnt true 5 = 5 ∧ cnt true 6 = 7 ∧ mo true 5 = 6 ∧ ml true 5 = false ∧ mo true 6 = 6 ∧ ml true 6 = true := by decide

/-- THE SLICE '.slice A n c' HOLDS THE MONTHS of the year y, all of them. -/
structure Ms (w : World) (A : Option Addr) (n c : Nat) (y : Int) (b : Bool) : Prop where
  le : n ≤ c
  cmax : c ≤ 9223372036854775807
  cells : ∀ k : Nat, k < n → ∃ bl off, A = some ⟨bl, off, none⟩ ∧ w.cell? ⟨bl, off + k * 5, none⟩ = some (.int .i64 2) ∧ w.cell? ⟨bl, off + k * 5 + 1, none⟩ = some (.int .i64 y) ∧ w.cell? ⟨bl, off + k * 5 + 2, none⟩ = some (.int .i64 (mo b k)) ∧ w.cell? ⟨bl, off + k * 5 + 3, none⟩ = some (.int .i64 1) ∧ w.cell? ⟨bl, off + k * 5 + 4, none⟩ = some (.bool (ml b k))
theorem Ms.aft {w w' : World} {A : Option Addr} {n c : Nat} {y : Int} {b : Bool} (h : Ms w A n c y b) (k : Aft w w') : Ms w' A n c y b :=
  ⟨h.le, h.cmax, fun i hi => by
    obtain ⟨bl, off, e, h0, h1, h2, h3, h4⟩ := h.cells i hi
    exact ⟨bl, off, e, k.cell h0, k.cell h1, k.cell h2, k.cell h3, k.cell h4⟩⟩
theorem Ms.of_row {w : World} {base n : Nat} {v : Value} {y : Int} {b : Bool} (h : w.ownsRow base 34 5 v n (flatM y (mlist b n))) : ∃ A c, v = .slice A n c ∧ Ms w A n c y b := by
  rcases h.2 with ⟨rfl, rfl⟩ | ⟨g, cap, cur, rfl, _, _, hle, hc, _⟩
  · exact ⟨none, 0, rfl, ⟨Nat.le_refl _, by omega, fun i hi => by omega⟩⟩
  · refine ⟨_, _, rfl, hle, by unfold maxLen at hc; omega, fun i hi => ⟨g, 0, rfl, ?_⟩⟩
    have hx := flatM_get y _ i _ (mlist_get b hi)
    refine ⟨?_, ?_, ?_, ?_, ?_⟩
    · rw [Nat.zero_add, h.cellAt _ (by omega)]; exact hx.1
    · rw [Nat.zero_add, h.cellAt _ (by omega)]; exact hx.2.1
    · rw [Nat.zero_add, h.cellAt _ (by omega)]; exact hx.2.2.1
    · rw [Nat.zero_add, h.cellAt _ (by omega)]; exact hx.2.2.2.1
    · rw [Nat.zero_add, h.cellAt _ (by omega)]; exact hx.2.2.2.2
/-- What Months leaves. -/
def MsPost (w : World) (y : Int) (e : Ending) (w' : World) : Prop := ∃ A c, e = .returned (.slice A (if y < 0 then 0 else nmN (leapB y)) c) ∧ Ms w' A (if y < 0 then 0 else nmN (leapB y)) c y (leapB y) ∧ Aft w w'

theorem own_aft {wr w1 : World} {base : Nat} {e : TypeId} {size : Nat} {v : Value} {n : Nat} {l : List Value} (h : wr.ownsRow base e size v n l) (k : Aft wr w1) : w1.ownsRow base e size v n l := by
  refine ⟨h.1, ?_⟩
  rcases h.2 with h0 | ⟨g, cap, cur, hv, hb, hg, rest⟩
  · exact .inl h0
  · exact .inr ⟨g, cap, cur, hv, hb, (Below.block k g (Array.getElem?_eq_some_iff.1 hg).1).trans hg, rest⟩
theorem row_ltM {w wr : World} {t : TypeId} {s : Nat} {v : Value} {n : Nat} {l : List Value} (h : wr.ownsRow w.heap.size t s v n l) : ∀ g, v.ownBlock = some g → w.heap.size ≤ g := fun g hg => (h.lt g hg).1
theorem BoxD.grown {w w' : World} {p : Nat} {c y m d : Int} {l : Bool} {row : Option Nat} (h : BoxD w p c y m d l) (hg : w.grownBy w' row) (hne : some p ≠ row) : BoxD w' p c y m d l :=
  (hg.block p (Array.getElem?_eq_some_iff.1 h).1 hne).trans h
theorem row_ne {wr : World} {B : Nat} {t : TypeId} {s : Nat} {v : Value} {n : Nat} {l : List Value} (h : wr.ownsRow B t s v n l) {p : Nat} (hp : wr.heap.size ≤ p) : some p ≠ v.ownBlock := fun e => by have := (h.lt p e.symm).2; omega
theorem Tryd.infoD : (Tryd.prog.info? 34).map (fun i => (i.zero, i.size, i.bytes)) = some (some (.agg #[.int .i64 0, .int .i64 0, .int .i64 0, .int .i64 0, .bool false]), 5, 40) := by kernel_rfl

set_option maxRecDepth 100000 in
set_option maxHeartbeats 1600000 in
theorem refMonths_any (y : Int) (w : World) : Calls Tryd.prog 23 #[.int .i64 y] w (MsPost w y) := by
  obtain ⟨i0, hi, hz0, hz1, hz2⟩ := info_parts Tryd.infoD
  by_cases h0 : y < 0
  · go_enter Tryd.func23, Tryd.ntmps23
    go_wp2
    go_loopw [3, 4] (fun v i wr => v = .slice (some ⟨w.heap.size, 0, none⟩) 0 0 ∧ i = .int .i64 1 ∧ Aft w wr) (fun _ _ _ => 0)
    case atStart => exact ⟨rfl, rfl, (Aft.refl _).alloc _⟩
    case round =>
      obtain ⟨rfl, rfl, haf⟩ := hrel
      go_wp2
      go_ret
      exact ⟨some ⟨w.heap.size, 0, none⟩, 0, by rw [if_pos h0]; rfl, by rw [if_pos h0]; exact ⟨Nat.le_refl _, by omega, fun i hi => by omega⟩, haf⟩
  · have HL := Lib.hid (fun w => refLeap_any y w)
    have HP := Lib.hid (show ∀ v W, W.ownsRow w.heap.size 34 5 v (nmN (leapB y)) (flatM y (mlist (leapB y) (nmN (leapB y)))) → Aft w W → MsPost w y (.returned v) W from fun v W h a => by
      obtain ⟨A, c, rfl, hm⟩ := Ms.of_row h
      exact ⟨A, c, by rw [if_neg h0], by rw [if_neg h0]; exact hm, a⟩)
    generalize leapB y = b at *
    go_enter Tryd.func23, Tryd.ntmps23
    go_wp2
    go_loopw [3, 4] (fun v i wr => ∃ k : Nat, k ≤ 12 ∧ i = .int .i64 ((k : Int) + 1) ∧ wr.ownsRow w.heap.size 34 5 v (cnt b k) (flatM y (mlist b (cnt b k))) ∧ Aft w wr) (fun _ i _ => (13 - intOf i).toNat)
    case atStart => exact ⟨0, by omega, rfl, by rw [cnt_zero]; exact World.ownsRow_made w _ 0 (Nat.le_refl _) (by unfold maxLen; omega) rfl, (Aft.refl _).alloc _⟩
    case round =>
      obtain ⟨k, hk, rfl, own, haf⟩ := hrel
      have O := Lib.hid own
      clear own
      have hcl := cnt_le b k
      have hs0 := haf.size
      by_cases hlt : k < 12
      · by_cases h5 : k = 5 ∧ b = true
        · obtain ⟨rfl, rfl⟩ := h5
          obtain ⟨e5, e6, e7, e8, e9, e10⟩ := cnt_five
          have HM := Lib.hid (show flatM y (mlist true (cnt true 6)) = (flatM y (mlist true (cnt true 5)) ++ flatM y [(6, false)]) ++ flatM y [(6, true)] by rw [e6, mlist_succ, mlist_succ, flatM_append, flatM_append, e5]; rfl)
          have HC := Lib.hid (show cnt true 6 = cnt true 5 + 1 + 1 by rw [e5, e6])
          clear e5 e6 e7 e8 e9 e10
          generalize cnt true 5 = N at *
          go_wp2_with (at_builtin; refine wpList_append_own _ rfl _ _ 30 rfl w.heap.size 34 i0 _ 5 40 Tryd.underlying30 hi hz0 hz1 hz2 rfl (by decide) _ _ _ rfl (O.out.alloc _) ⟨wr.heap.size, 0, none⟩ 1 1 (flatM y [(6, false)]) rfl rfl (one_cellsM _ y _ (rfl)) (flatM_one _ _) (by unfold maxLen; omega) (by omega) (by simp; omega) ?_; intro v1 w1 own1 grow1 _)
          have hs1 := ((haf.alloc _).grown grow1 (row_ltM O.out)).size
          have A1 := Lib.hid ((haf.alloc _).grown grow1 (row_ltM O.out))
          have O1 := Lib.hid own1
          clear own1 grow1
          go_wp2_with fail
          refine (HL.out _).mono ?_
          rintro e w' ⟨rfl, rfl⟩
          go_wp2_with (at_builtin; refine wpList_append_own _ rfl _ _ 30 rfl w.heap.size 34 i0 _ 5 40 Tryd.underlying30 hi hz0 hz1 hz2 rfl (by decide) _ _ _ rfl (O1.out.alloc _) ⟨w1.heap.size, 0, none⟩ 1 1 (flatM y [(6, true)]) rfl rfl (one_cellsM _ y _ (rfl)) (flatM_one _ _) (by unfold maxLen; omega) (by omega) (by simp; omega) ?_; intro v2 w2 own2 grow2 _)
          have A2 := (A1.out.alloc _).grown grow2 (row_ltM O1.out)
          have O2 := Lib.hid own2
          clear own2 grow2
          go_roundw
          case rel => exact ⟨6, by omega, by go_num, by rw [HM.out, HC.out]; exact O2.out, A2⟩
          case measure => simp [intOf]
        · obtain ⟨e1, e2, e3⟩ := cnt_step b k h5
          have HQ := Lib.hid (fun (v : Value) (W : World) (h : W.ownsRow w.heap.size 34 5 v (cnt b k + 1) (flatM y (mlist b (cnt b k)) ++ flatM y [((k : Int) + 1, false)])) => (show W.ownsRow w.heap.size 34 5 v (cnt b (k + 1)) (flatM y (mlist b (cnt b (k + 1)))) by rw [e1, mlist_succ, flatM_append, e2, e3]; exact h))
          have h6 : ((k : Int) + 1 == 6) = true → b = false := fun h => by
            have : (k : Int) + 1 = 6 := by simpa using h
            cases b
            · rfl
            · exact absurd ⟨by omega, rfl⟩ h5
          have H6 := Lib.hid h6
          clear e1 e2 e3 h5 h6
          by_cases g6 : k = 5
          · subst g6
            have hb := H6.out rfl
            rw [hb] at HL
            clear hb
            go_wp2_with (at_builtin; refine wpList_append_own _ rfl _ _ 30 rfl w.heap.size 34 i0 _ 5 40 Tryd.underlying30 hi hz0 hz1 hz2 rfl (by decide) _ _ _ rfl (O.out.alloc _) ⟨wr.heap.size, 0, none⟩ 1 1 (flatM y [((5 : Nat) + 1, false)]) rfl rfl (one_cellsM _ y _ (rfl)) (flatM_one _ _) (by unfold maxLen; omega) (by omega) (by simp; omega) ?_; intro v1 w1 own1 grow1 _)
            have A1 := (haf.alloc _).grown grow1 (row_ltM O.out)
            have O1 := Lib.hid own1
            clear own1 grow1
            go_wp2_with fail
            refine (HL.out _).mono ?_
            rintro e w' ⟨rfl, rfl⟩
            go_wp2
            go_roundw
            case rel => exact ⟨6, by omega, by go_num, HQ.out _ _ O1.out, A1⟩
            case measure => simp [intOf]
          · have g7 : ¬ (k : Int) + 1 = 6 := by omega
            have g8 : ((k : Int) + 1 == 6) = false := by simp; omega
            go_wp2_with (at_builtin; refine wpList_append_own _ rfl _ _ 30 rfl w.heap.size 34 i0 _ 5 40 Tryd.underlying30 hi hz0 hz1 hz2 rfl (by decide) _ _ _ rfl (O.out.alloc _) ⟨wr.heap.size, 0, none⟩ 1 1 (flatM y [((k : Int) + 1, false)]) rfl rfl (one_cellsM _ y _ (rfl)) (flatM_one _ _) (by unfold maxLen; omega) (by omega) (by simp; omega) ?_; intro v1 w1 own1 grow1 _)
            have A1 := (haf.alloc _).grown grow1 (row_ltM O.out)
            have O1 := Lib.hid own1
            clear own1 grow1
            go_roundw
            case rel => exact ⟨k + 1, by omega, by go_num, HQ.out _ _ O1.out, A1⟩
            case measure => simp [intOf]; omega
      · obtain rfl : k = 12 := by omega
        rw [cnt_all] at O
        go_wp2
        go_ret
        exact HP.out _ _ O.out haf
end Go.Proofs.YtdeojpmimhagjabDoor
