/-
  The laws' comparisons of lists: Texts (strings) and Ints (numbers). Conditions: the slices hold the lists.
-/
import Derived.Test.YtdehghmpfkhljaaDoorNumNums
namespace Go.Proofs.YtdehghmpfkhljaaDoor
open Go.RowKit
open NumPlain

theorem take_more {α : Type} {a b : List α} {k : Nat} {x : α} (ha : a[k]? = some x) (hb : b[k]? = some x) (h : a.take k = b.take k) : a.take (k + 1) = b.take (k + 1) := by
  rw [take_next ha, take_next hb, h]
theorem take_ne {α : Type} {a b : List α} {k : Nat} {x y : α} (ha : a[k]? = some x) (hb : b[k]? = some y) (h : ¬ x = y) : ¬ a = b := by
  intro e; subst e; rw [ha] at hb; cases hb; exact h rfl
theorem take_all {α : Type} {a b : List α} {k : Nat} (ha : a.length = k) (hb : b.length = k) (h : a.take k = b.take k) : a = b := by
  rwa [List.take_of_length_le (by omega), List.take_of_length_le (by omega)] at h
set_option maxRecDepth 100000 in
set_option maxHeartbeats 800000 in
theorem texts_any (A : Option Addr) (n c : Nat) (xs : List BA) (B : Option Addr) (m d : Nat) (ys : List BA) (w : World) (ha : Rw sV w A n c xs) (hb : Rw sV w B m d ys) :
    Calls Tryd.prog 23 #[.slice A n c, .slice B m d] w (BoolPost w (decide (xs = ys))) := by
  have hnc := ha.le
  have hcm := ha.cmax
  have hmd := hb.le
  have hdm := hb.cmax
  have HA := Lib.hid ha.len
  have HB := Lib.hid hb.len
  by_cases hnm : n = m
  · subst hnm
    go_enter Tryd.func23, Tryd.ntmps23
    go_wp2
    go_loopw [5] (fun i wr => ∃ k : Nat, k ≤ n ∧ i = .int .i64 (k : Nat) ∧ xs.take k = ys.take k ∧ Aft w wr) (fun i _ => n - (intOf i).toNat)
    case atStart => exact ⟨0, Nat.zero_le _, rfl, rfl, Aft.refl _⟩
    case round =>
      obtain ⟨k, hk, rfl, heq, haf⟩ := hrel
      have HQ := Lib.hid heq
      clear heq
      by_cases hlt : k < n
      · obtain ⟨b, off, x, rfl, hx, h1⟩ := ha.at_ hlt
        obtain ⟨b2, off2, y, rfl, hy, h2⟩ := hb.at_ hlt
        have c1 := haf.cell h1
        have c2 := haf.cell h2
        dsimp only [sV] at c1 c2
        have hki : (k : Int) < (n : Int) := by omega
        by_cases hxy : x = y
        · have p1 : (x.toList == y.toList) = true := by rw [hxy]; simp
          have p2 : (x.toList != y.toList) = false := by rw [hxy]; simp
          have HT := Lib.hid (take_more hx (hxy ▸ hy) HQ.out)
          clear hx hy h1 h2 hxy
          go_wp2
          go_quiet (fail)
          go_wp2
          go_roundw
          case rel => exact ⟨k + 1, by omega, by go_num, HT.out, haf.drewN _⟩
          case measure => simp [intOf]; omega
        · have HT := Lib.hid (decide_eq_false (take_ne hx hy hxy))
          have p1 : (x.toList == y.toList) = false := by rw [toList_beq]; simp [hxy]
          have p2 : (x.toList != y.toList) = true := by unfold bne; rw [p1]; rfl
          clear hx hy h1 h2 hxy
          go_wp2
          go_quiet (fail)
          go_wp2
          go_ret
          exact ⟨by rw [HT.out]; rfl, haf.drewN _⟩
      · obtain rfl : k = n := by omega
        have HT := Lib.hid (decide_eq_true (take_all HA.out HB.out HQ.out))
        go_wp2
        go_ret
        exact ⟨by rw [HT.out]; rfl, haf⟩
  · have HT := Lib.hid (decide_eq_false (show ¬ xs = ys by intro e; subst e; exact hnm (HA.out.symm.trans HB.out)))
    have hni : ¬ (n : Int) = (m : Int) := by omega
    clear ha hb
    go_enter Tryd.func23, Tryd.ntmps23
    go_wp2
    go_ret
    exact ⟨by rw [HT.out]; rfl, Aft.refl _⟩

set_option maxRecDepth 100000 in
set_option maxHeartbeats 800000 in
theorem ints_any (A : Option Addr) (n c : Nat) (xs : List Int) (B : Option Addr) (m d : Nat) (ys : List Int) (w : World) (ha : Rw vI w A n c xs) (hb : Rw vI w B m d ys) :
    Calls Tryd.prog 25 #[.slice A n c, .slice B m d] w (BoolPost w (decide (xs = ys))) := by
  have hnc := ha.le
  have hcm := ha.cmax
  have hmd := hb.le
  have hdm := hb.cmax
  have HA := Lib.hid ha.len
  have HB := Lib.hid hb.len
  by_cases hnm : n = m
  · subst hnm
    go_enter Tryd.func25, Tryd.ntmps25
    go_wp2
    go_loopw [5] (fun i wr => ∃ k : Nat, k ≤ n ∧ i = .int .i64 (k : Nat) ∧ xs.take k = ys.take k ∧ Aft w wr) (fun i _ => n - (intOf i).toNat)
    case atStart => exact ⟨0, Nat.zero_le _, rfl, rfl, Aft.refl _⟩
    case round =>
      obtain ⟨k, hk, rfl, heq, haf⟩ := hrel
      have HQ := Lib.hid heq
      clear heq
      by_cases hlt : k < n
      · obtain ⟨b, off, x, rfl, hx, h1⟩ := ha.at_ hlt
        obtain ⟨b2, off2, y, rfl, hy, h2⟩ := hb.at_ hlt
        have c1 := haf.cell h1
        have c2 := haf.cell h2
        dsimp only [vI] at c1 c2
        have hki : (k : Int) < (n : Int) := by omega
        by_cases hxy : x = y
        · have p1 : (x == y) = true := by simp [hxy]
          have p2 : (x != y) = false := by simp [hxy]
          have HT := Lib.hid (take_more hx (hxy ▸ hy) HQ.out)
          clear hx hy h1 h2 hxy
          go_wp2
          go_quiet (fail)
          go_wp2
          go_roundw
          case rel => exact ⟨k + 1, by omega, by go_num, HT.out, haf.drewN _⟩
          case measure => simp [intOf]; omega
        · have HT := Lib.hid (decide_eq_false (take_ne hx hy hxy))
          have p1 : (x == y) = false := by simp [hxy]
          have p2 : (x != y) = true := by simp [hxy]
          clear hx hy h1 h2 hxy
          go_wp2
          go_quiet (fail)
          go_wp2
          go_ret
          exact ⟨by rw [HT.out]; rfl, haf.drewN _⟩
      · obtain rfl : k = n := by omega
        have HT := Lib.hid (decide_eq_true (take_all HA.out HB.out HQ.out))
        go_wp2
        go_ret
        exact ⟨by rw [HT.out]; rfl, haf⟩
  · have HT := Lib.hid (decide_eq_false (show ¬ xs = ys by intro e; subst e; exact hnm (HA.out.symm.trans HB.out)))
    have hni : ¬ (n : Int) = (m : Int) := by omega
    clear ha hb
    go_enter Tryd.func25, Tryd.ntmps25
    go_wp2
    go_ret
    exact ⟨by rw [HT.out]; rfl, Aft.refl _⟩

end Go.Proofs.YtdehghmpfkhljaaDoor
