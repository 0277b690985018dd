/-
  divide. Conditions: the tokens are at least as many as the head has.
-/
import Derived.Test.YtdehghmpfkhljaaDoorNumKeep6
import Derived.BigQuiet
namespace Go.Proofs.YtdehghmpfkhljaaDoor
open Go.RowKit
open NumPlain

theorem Rw.dropW {α : Type} {enc : α → Value} {w : World} {b off n c k : Nat} {l : List α} (h : Rw enc w (some ⟨b, off, none⟩) n c l) (hk : k ≤ n) : Rw enc w (some ⟨b, off + k, none⟩) (n - k) (c - k) (l.drop k) := by
  have h0 := h.len
  have h1 := h.le
  have h2 := h.cmax
  refine ⟨by simp; omega, by omega, by omega, fun e => (by cases e), fun i u hi => ?_⟩
  rw [List.getElem?_drop] at hi
  obtain ⟨b', o', e, g⟩ := h.cells (k + i) u hi
  cases e
  exact ⟨b, off + k, rfl, by rw [Nat.add_assoc]; exact g⟩
theorem Rw.empty {α : Type} {enc : α → Value} {w : World} (a : Addr) : Rw enc w (some a) 0 0 ([] : List α) := ⟨rfl, Nat.le_refl _, by omega, fun e => (by cases e), fun i u h => by simp at h⟩
def headD (x : Nm) (l : List BA) (size : Nat) : List BA := if x.sf then l.drop (l.length - size) else l.take size
def restD (x : Nm) (l : List BA) (size : Nat) : List BA := if x.sf then l.take (l.length - size) else l.drop size
def DivPost (w : World) (b : Nat) (h r : List BA) (e : Ending) (w' : World) : Prop :=
  (∃ (X1 : Option Addr) (n1 c1 : Nat) (X2 : Option Addr) (n2 c2 : Nat), e = .returned (.tuple #[.slice X1 n1 c1, .slice X2 n2 c2]) ∧ Rw sV w' X1 n1 c1 h ∧ Rw sV w' X2 n2 c2 r ∧ ∀ a, X1 = some a → a.block = b) ∧ Aft w w'

set_option maxRecDepth 100000 in
set_option maxHeartbeats 1600000 in
theorem divide_any (x : Nm) (Bs Bw : Nat) (b off n c : Nat) (toks : List BA) (size : Nat) (w : World) (h1 : 1 ≤ size) (h2 : size ≤ n) (ht : Rw sV w (some ⟨b, off, none⟩) n c toks) :
    Calls Tryd.prog 71 #[rV x Bs Bw, .slice (some ⟨b, off, none⟩) n c, .int .i64 (size : Int)] w (DivPost w b (headD x toks size) (restD x toks size)) := by
  have hl := ht.len
  have hle := ht.le
  have hcm := ht.cmax
  have AL : Aft w (w.alloc (.cells (rC x Bs Bw) 60)) := (Aft.refl w).alloc _
  obtain ⟨m, hm⟩ : ∃ m, n - size = m := ⟨_, rfl⟩
  have T1 := Lib.hid (ht.take' (k := m) (by omega))
  have D1 := Lib.hid (ht.dropW (k := m) (by omega))
  have T2 := Lib.hid (ht.take' (k := size) h2)
  have D2 := Lib.hid (ht.dropW (k := size) h2)
  have hbx : (w.alloc (.cells (rC x Bs Bw) 60)).cell? ⟨w.heap.size, 3, none⟩ = some (.bool x.sf) := by simp
  have hmi : (n : Int) - (size : Int) = (m : Int) := by omega
  have hnm : n - m = size := by omega
  have hm0 : m ≤ n := by omega
  have hmc : m ≤ c := by omega
  have hmx : m ≤ 9223372036854775807 := by omega
  have hszc : size ≤ c := by omega
  have hmci : (m : Int) ≤ (c : Int) := by omega
  have hmni : (m : Int) ≤ (n : Int) := by omega
  have hsni : (size : Int) ≤ (n : Int) := by omega
  have hsci : (size : Int) ≤ (c : Int) := by omega
  have hcm' : ¬ c = m := by omega
  have hcm2 : ¬ m = c := by omega
  have hc0 : ¬ c = 0 := by omega
  cases hs : x.sf
  · have HV := Lib.hid (show headD x toks size = toks.take size ∧ restD x toks size = toks.drop size by unfold headD restD; rw [hs]; exact ⟨rfl, rfl⟩)
    rw [hs] at hbx
    clear hs hmi
    by_cases hcs : c = size
    · have HE := Lib.hid (show toks.drop size = [] from List.drop_of_length_le (by omega))
      have hns : n = size := by omega
      have HM := Lib.hid (show m = 0 by omega)
      subst hcs
      subst hns
      clear ht
      go_enter Tryd.func71, Tryd.ntmps71
      go_wp2
      go_quiet (fail)
      go_wp2
      go_ret2
      exact ⟨⟨_, _, _, _, _, _, rfl, by rw [HV.out.1]; exact T2.out.aft (AL.drewN _), by rw [HV.out.2, HE.out, HM.out]; exact Rw.empty _, fun a e => by cases e; rfl⟩, AL.drewN _⟩
    · have hcs' : ¬ size = c := fun h => hcs h.symm
      clear ht
      go_enter Tryd.func71, Tryd.ntmps71
      go_wp2
      go_quiet (fail)
      go_wp2
      go_ret2
      exact ⟨⟨_, _, _, _, _, _, rfl, by rw [HV.out.1]; exact T2.out.aft (AL.drewN _), by rw [HV.out.2]; have h := D2.out; rw [hm] at h; exact h.aft (AL.drewN _), fun a e => by cases e; rfl⟩, AL.drewN _⟩
  · have HV := Lib.hid (show headD x toks size = toks.drop m ∧ restD x toks size = toks.take m by unfold headD restD; rw [hs, hl, hm]; exact ⟨rfl, rfl⟩)
    rw [hs] at hbx
    clear hs ht
    go_enter Tryd.func71, Tryd.ntmps71
    go_wp2
    go_quiet (fail)
    go_wp2
    go_ret2
    exact ⟨⟨_, _, _, _, _, _, rfl, by rw [HV.out.1]; have h := D1.out; rw [hnm] at h; exact h.aft (AL.drewN _), by rw [HV.out.2]; exact T1.out.aft (AL.drewN _), fun a e => by cases e; rfl⟩, AL.drewN _⟩
end Go.Proofs.YtdehghmpfkhljaaDoor
