/-
  swapRange and rotate of package slices, over a row of strings. Conditions: the row holds the strings; there are at most 1000.
-/
import Derived.Test.YtgnhkacndmdfgaaDoorSortRow
import Derived.Shelf.RegionOpenPlain
namespace Go.Proofs.YtgnhkacndmdfgaaDoor
open Go.RowKit
open AlphPlain SortPlain

def UnitSw (w1 : World) (blk : Nat) (d : List ByteArray) (e : Ending) (W' : World) : Prop := e = .returned (.tuple #[]) ∧ Sw w1 blk d W'

def swk (P U M V Q : List ByteArray) (k : Nat) : List ByteArray := P ++ (V.take k ++ (U.drop k ++ (M ++ (U.take k ++ (V.drop k ++ Q)))))

theorem swk_step {P U M V Q : List ByteArray} {k : Nat} (hUV : U.length = V.length) (hk : k < U.length) :
    ∃ u v, (swk P U M V Q k)[P.length + k]? = some u ∧ (swk P U M V Q k)[P.length + U.length + M.length + k]? = some v ∧ exch (swk P U M V Q k) (P.length + k) (P.length + U.length + M.length + k) u v = swk P U M V Q (k + 1) := by
  have hu : U[k]? = some U[k] := List.getElem?_eq_getElem hk
  have hv : V[k]? = some (V[k]'(by omega)) := List.getElem?_eq_getElem (by omega)
  generalize U[k] = u at hu
  generalize V[k]'(by omega) = v at hv
  have e : swk P U M V Q k = (P ++ V.take k) ++ u :: ((U.drop (k + 1) ++ (M ++ U.take k)) ++ v :: (V.drop (k + 1) ++ Q)) := by
    unfold swk
    rw [drop_of_get hu, drop_of_get hv]
    simp only [List.append_assoc, List.cons_append]
  have l1 : P.length + k = (P ++ V.take k).length := by rw [List.length_append, List.length_take]; omega
  have l2 : P.length + U.length + M.length + k = (P ++ V.take k).length + 1 + (U.drop (k + 1) ++ (M ++ U.take k)).length := by
    simp only [List.length_append, List.length_take, List.length_drop]; omega
  refine ⟨u, v, ?_, ?_, ?_⟩
  · rw [e]; exact at_app _ _ _ _ l1
  · rw [e, ← List.cons_append, ← List.append_assoc]
    exact at_app _ _ _ _ (by rw [l2]; simp only [List.length_append, List.length_cons]; omega)
  · rw [e, exch_app _ _ _ _ _ _ _ l1 l2]
    unfold swk
    rw [take_next hu, take_next hv]
    simp only [List.append_assoc, List.cons_append, List.nil_append]

theorem swk_len (P U M V Q : List ByteArray) (k : Nat) (hUV : U.length = V.length) : (swk P U M V Q k).length = P.length + U.length + M.length + V.length + Q.length := by
  unfold swk
  simp only [List.length_append, List.length_take, List.length_drop]
  omega

set_option maxRecDepth 100000 in
set_option maxHeartbeats 1600000 in
theorem swapRange_any (w1 : World) (blk n cap a b m : Nat) (P U M V Q : List ByteArray) (fv : Value) (W : World) (hUV : U.length = V.length) (h : Sw w1 blk (P ++ (U ++ (M ++ (V ++ Q)))) W)
    (hn : n = P.length + U.length + M.length + V.length + Q.length) (ha : a = P.length) (hb : b = P.length + U.length + M.length) (hm : m = U.length) (h1000 : n ≤ 1000) :
    Calls Tryd.prog 64 #[.slice (some ⟨blk, 0, none⟩) n cap, .int .i64 (a : Nat), .int .i64 (b : Nat), .int .i64 (m : Nat), fv] W (UnitSw w1 blk (P ++ (V ++ (M ++ (U ++ Q))))) := by
  have h0 : Sw w1 blk (swk P U M V Q 0) W := by unfold swk; simpa using h
  have HU := Lib.hid hUV
  have HN := Lib.hid hn
  have HA := Lib.hid ha
  have HB := Lib.hid hb
  have HM := Lib.hid hm
  have hbm : b + m ≤ n := by omega
  have ham : a + m ≤ n := by omega
  clear hUV hn ha hb hm h
  have H0 := Lib.hid h0
  clear h0
  have mixed : Tryd.prog.follows .mixedOrders = true := by kernel_rfl
  go_enter Tryd.func64, Tryd.ntmps64
  go_wp2
  go_loopw [10] (fun i wr => ∃ k, k ≤ m ∧ i = .int .i64 (k : Nat) ∧ Sw w1 blk (swk P U M V Q k) wr) (fun i _ => m - (intOf i).toNat)
  case atStart => exact ⟨0, Nat.zero_le _, rfl, H0.out⟩
  case round =>
    obtain ⟨k, hk, rfl, hs⟩ := hrel
    have HS := Lib.hid hs
    clear hs H0
    by_cases hlt : k < m
    · obtain ⟨u, v, hu, hv, hx⟩ := swk_step (P := P) (M := M) (Q := Q) HU.out (k := k) (by rw [← HM.out]; exact hlt)
      rw [← HA.out] at hu hx
      rw [← HA.out, ← HM.out] at hv
      rw [← HM.out] at hx
      have hb' : a + m + M.length + k = b + k := by rw [HB.out, HA.out, HM.out]
      rw [hb'] at hv hx
      have hne : a + k ≠ b + k := by have := HB.out; have := HA.out; have := HM.out; omega
      have ca := HS.out.cells _ _ hu
      have cb := HS.out.cells _ _ hv
      have fa := HS.out.thaw (a + k) (List.getElem?_eq_some_iff.1 hu).1
      have fb := HS.out.thaw (b + k) (List.getElem?_eq_some_iff.1 hv).1
      have cc : (wr.setCell ⟨blk, a + k, none⟩ (.string v)).cell? ⟨blk, b + k, none⟩ = some (.string v) := by
        rw [World.cell?_setCell_other _ _ _ _ (by intro e; simp only [Addr.mk.injEq] at e; omega)]; exact cb
      have hsw := HS.out.swap hu hv hne
      rw [hx] at hsw
      have HW := Lib.hid hsw.drew
      clear hu hv hx hb' hsw hne
      have i1 : (0 : Int) ≤ (a : Int) + (k : Int) := by omega
      have i2 : (a : Int) + (k : Int) < (n : Int) := by omega
      have i3 : ((a : Int) + (k : Int)).toNat = a + k := by omega
      have i4 : IntKind.i64.wrap ((a : Int) + (k : Int)) = (a : Int) + (k : Int) := wrap_small _ (by omega) (by omega)
      have j1 : (0 : Int) ≤ (b : Int) + (k : Int) := by omega
      have j2 : (b : Int) + (k : Int) < (n : Int) := by omega
      have j3 : ((b : Int) + (k : Int)).toNat = b + k := by omega
      have j4 : IntKind.i64.wrap ((b : Int) + (k : Int)) = (b : Int) + (k : Int) := wrap_small _ (by omega) (by omega)
      go_wp2
      go_big_region_o
      clear ca cb cc fa fb i3 j3 i4 j4
      generalize ((wr.setCell ⟨blk, a + k, none⟩ (.string v)).setCell ⟨blk, b + k, none⟩ (.string u)).drew = w3 at HW ⊢
      go_wp2
      go_roundw
      case rel => exact ⟨k + 1, by omega, by go_num, HW.out⟩
      case measure => simp [intOf]; omega
    · obtain rfl : k = m := by omega
      go_wp2
      go_end0
      refine ⟨rfl, ?_⟩
      have := HS.out
      unfold swk at this
      rw [HM.out, List.take_length, List.drop_length, HU.out, List.take_length, List.drop_length] at this
      simpa using this

theorem split_len {l : List ByteArray} {k : Nat} (h : k ≤ l.length) : ∃ a b, l = a ++ b ∧ a.length = k ∧ b.length = l.length - k :=
  ⟨l.take k, l.drop k, (List.take_append_drop k l).symm, by rw [List.length_take]; omega, List.length_drop⟩

/-- Where a rotation stands: i and j strings are still to be exchanged round place m. -/
def RotI (w1 : World) (blk n m : Nat) (T : List ByteArray) (i j : Nat) (wr : World) : Prop :=
  ∃ Pk X Y Qk : List ByteArray, i = X.length ∧ j = Y.length ∧ m = Pk.length + X.length ∧ 0 < X.length ∧ 0 < Y.length ∧ n = Pk.length + X.length + Y.length + Qk.length ∧ T = Pk ++ (Y ++ (X ++ Qk)) ∧ Sw w1 blk (Pk ++ (X ++ (Y ++ Qk))) wr

set_option maxRecDepth 100000 in
set_option maxHeartbeats 1600000 in
theorem rotate_any (w1 : World) (blk n cap a m b : Nat) (P U V Q : List ByteArray) (fv : Value) (W : World) (h : Sw w1 blk (P ++ (U ++ (V ++ Q))) W)
    (hn : n = P.length + U.length + V.length + Q.length) (ha : a = P.length) (hm : m = P.length + U.length) (hb : b = P.length + U.length + V.length) (h1000 : n ≤ 1000) (hU : 0 < U.length) (hV : 0 < V.length) :
    Calls Tryd.prog 63 #[.slice (some ⟨blk, 0, none⟩) n cap, .int .i64 (a : Nat), .int .i64 (m : Nat), .int .i64 (b : Nat), fv] W (UnitSw w1 blk (P ++ (V ++ (U ++ Q)))) := by
  obtain ⟨i0, hi0⟩ : ∃ i, i = U.length := ⟨_, rfl⟩
  obtain ⟨j0, hj0⟩ : ∃ j, j = V.length := ⟨_, rfl⟩
  have e1 : (m : Int) - (a : Int) = ((i0 : Nat) : Int) := by omega
  have e2 : (b : Int) - (m : Int) = ((j0 : Nat) : Int) := by omega
  have hmn : m ≤ 1000 := by omega
  have hun : i0 ≤ 1000 := by omega
  have hvn : j0 ≤ 1000 := by omega
  have H0 := Lib.hid (show RotI w1 blk n m (P ++ (V ++ (U ++ Q))) i0 j0 W from ⟨P, U, V, Q, hi0, hj0, hm, hU, hV, hn, rfl, h⟩)
  clear hn ha hm hb h hU hV hi0 hj0
  generalize P ++ (V ++ (U ++ Q)) = T at *
  go_enter Tryd.func63, Tryd.ntmps63
  go_wp2
  clear e1 e2
  go_loopw [10, 11] (fun x y wr => ∃ (i j : Nat), x = .int .i64 (i : Nat) ∧ y = .int .i64 (j : Nat) ∧ RotI w1 blk n m T i j wr) (fun x y _ => (intOf x).toNat + (intOf y).toNat)
  case atStart => exact ⟨i0, j0, rfl, rfl, H0.out⟩
  case round =>
    clear H0 hun hvn
    obtain ⟨i, j, rfl, rfl, hr⟩ := hrel
    obtain ⟨Pk, X, Y, Qk, hi, hj, hm, hX, hY, hn, ht, hs⟩ := hr
    have HS := Lib.hid hs
    have HT := Lib.hid ht
    obtain ⟨pk, hpk⟩ : ∃ k, k = Pk.length := ⟨_, rfl⟩
    have e1 : (m : Int) - (i : Int) = ((pk : Nat) : Int) := by omega
    have hp : pk ≤ 1000 := by omega
    have hx : i ≤ 1000 := by omega
    have hy : j ≤ 1000 := by omega
    have hx0 : 0 < i := by omega
    have hy0 : 0 < j := by omega
    clear hs ht
    rcases Nat.lt_trichotomy i j with hlt | heq | hgt
    · obtain ⟨Y1, Y2, hY12, l1, l2⟩ := split_len (l := Y) (k := j - i) (by omega)
      obtain ⟨bb, hbb⟩ : ∃ k, k = Pk.length + X.length + Y1.length := ⟨_, rfl⟩
      obtain ⟨jj, hjj⟩ : ∃ k, k = Y1.length := ⟨_, rfl⟩
      have hne : ¬ (i : Int) = (j : Int) := by omega
      have hng : ¬ (j : Int) < (i : Int) := by omega
      have e2 : (m : Int) + (j : Int) - (i : Int) = ((bb : Nat) : Int) := by omega
      have e3 : (j : Int) - (i : Int) = ((jj : Nat) : Int) := by omega
      have hc := swapRange_any w1 blk n cap pk bb i Pk X Y1 Y2 Qk fv wr (by omega) (by have := HS.out; rw [hY12] at this; simpa [List.append_assoc] using this) (by omega) hpk hbb hi h1000
      have hfin : ∀ w2, Sw w1 blk (Pk ++ (Y2 ++ (Y1 ++ (X ++ Qk)))) w2 → RotI w1 blk n m T i jj w2 := fun w2 S2 =>
        ⟨Pk, Y2, Y1, X ++ Qk, by omega, hjj, by omega, by omega, by omega, by rw [List.length_append]; omega, by rw [HT.out, hY12]; simp [List.append_assoc], S2⟩
      have HF := Lib.hid hfin
      have hm2 : m + j ≤ 2000 := by omega
      have hjj0 : jj < j := by omega
      clear hY12 l1 l2 hbb hjj hi hj hm hX hY hn hpk hfin HT HS
      go_wp2_with fail
      refine hc.mono ?_
      rintro e w2 ⟨rfl, S2⟩
      clear hc
      have HS2 := Lib.hid S2
      clear S2
      go_wp2
      go_roundw
      case rel => exact ⟨i, jj, rfl, rfl, HF.out _ HS2.out⟩
      case measure => simp [intOf]; omega
    · obtain rfl : i = j := heq
      have hc := swapRange_any w1 blk n cap pk m i Pk X [] Y Qk fv wr (by omega) (by simpa using HS.out) (by simp; omega) hpk (by simp; omega) hi h1000
      clear hi hj hm hX hY hn hpk HS
      go_wp2_with fail
      refine hc.mono ?_
      rintro e w2 ⟨rfl, S2⟩
      clear hc
      go_wp2
      go_end0
      exact ⟨rfl, by rw [HT.out]; simpa using S2⟩
    · obtain ⟨X1, X2, hX12, l1, l2⟩ := split_len (l := X) (k := j) (by omega)
      obtain ⟨ii, hii⟩ : ∃ k, k = X2.length := ⟨_, rfl⟩
      have hne : ¬ (i : Int) = (j : Int) := by omega
      have hgt' : (j : Int) < (i : Int) := by omega
      have e3 : (i : Int) - (j : Int) = ((ii : Nat) : Int) := by omega
      have hc := swapRange_any w1 blk n cap pk m j Pk X1 X2 Y Qk fv wr (by omega) (by have := HS.out; rw [hX12] at this; simpa [List.append_assoc] using this) (by omega) hpk (by omega) l1.symm h1000
      have hfin : ∀ w2, Sw w1 blk (Pk ++ (Y ++ (X2 ++ (X1 ++ Qk)))) w2 → RotI w1 blk n m T ii j w2 := fun w2 S2 =>
        ⟨Pk ++ Y, X2, X1, Qk, hii, l1.symm, by rw [List.length_append]; omega, by omega, by omega, by rw [List.length_append]; omega, by rw [HT.out, hX12]; simp [List.append_assoc], by simpa [List.append_assoc] using S2⟩
      have HF := Lib.hid hfin
      have hii0 : ii < i := by omega
      clear hX12 l1 l2 hii hi hj hm hX hY hn hpk hfin HT HS
      go_wp2_with fail
      refine hc.mono ?_
      rintro e w2 ⟨rfl, S2⟩
      clear hc
      have HS2 := Lib.hid S2
      clear S2
      go_wp2
      go_roundw
      case rel => exact ⟨ii, j, rfl, rfl, HF.out _ HS2.out⟩
      case measure => simp [intOf]; omega
end Go.Proofs.YtgnhkacndmdfgaaDoor
