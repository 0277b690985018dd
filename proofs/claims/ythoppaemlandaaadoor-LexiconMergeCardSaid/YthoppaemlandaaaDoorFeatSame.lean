/-
  Same returns whether two lists of features are equal; Record whether the names of a list are strictly ascending. Condition: the slices hold the features.
-/
import Derived.Test.YthoppaemlandaaaDoorFeatSubs
namespace Go.Proofs.YthoppaemlandaaaDoor
open Go.RowKit
open FeatPlain

def QuietPost (w : World) (r : Bool) (e : Ending) (w' : World) : Prop := e = .returned (.bool r) ∧ ∃ n, w' = w.drewN n

theorem quiet_aft {w w' : World} (h : ∃ n, w' = w.drewN n) : Aft w w' := by
  obtain ⟨n, rfl⟩ := h
  exact (Aft.refl _).drewN _

set_option maxHeartbeats 800000 in
theorem same_any (A : Option Addr) (n c : Nat) (xs : List Ft) (B : Option Addr) (m d : Nat) (ys : List Ft) (w : World) (ha : Sl w A n c xs) (hb : Sl w B m d ys) :
    Calls Tryd.prog 42 #[.slice A n c, .slice B m d] w (QuietPost w (decide (xs = ys))) := by
  have hn := ha.max
  have hnc := ha.le
  have hm := hb.max
  have hmd := hb.le
  have hlen := Lib.hid ha.len
  have hlen2 := Lib.hid hb.len
  by_cases hnm : n = m
  · subst hnm
    go_enter Tryd.func42, Tryd.ntmps42
    go_wp2
    go_loopw [5] (fun i wr => ∃ k, k ≤ n ∧ i = .int .i64 (k : Nat) ∧ xs.take k = ys.take k ∧ ∃ q, wr = w.drewN q) (fun i _ => n - (intOf i).toNat)
    case atStart => exact ⟨0, Nat.zero_le _, rfl, by simp, 0, rfl⟩
    case round =>
      obtain ⟨k, hk, rfl, he, q, rfl⟩ := hrel
      have HE := Lib.hid he
      clear he
      by_cases hlt : k < n
      · obtain ⟨b, off, f, rfl, hf, h1, h2⟩ := ha.at_ hlt
        obtain ⟨b', off', g, rfl, hg, g1, g2⟩ := hb.at_ hlt
        have HF := Lib.hid hf
        have HG := Lib.hid hg
        clear hf hg
        by_cases hfg : f = g
        · have hq : feq f g = true := feq_true hfg
          have HQ := Lib.hid hfg
          clear hfg
          go_wp2
          go_quiet (fail)
          go_wp2
          go_roundw
          case rel => exact ⟨k + 1, by omega, by go_num, by rw [List.take_add_one, List.take_add_one, HE.out, HF.out, HG.out, HQ.out], _, rfl⟩
          case measure => simp [intOf]; omega
        · have hq : feq f g = false := feq_false hfg
          go_wp2
          go_quiet (fail)
          go_wp2
          go_ret
          have hxy : xs ≠ ys := fun e => hfg (by have h1 := HF.out; have h2 := HG.out; rw [e, h2] at h1; exact (Option.some.inj h1).symm)
          exact ⟨by simp [hxy], q + nq, by rw [World.drewN_drewN]⟩
      · obtain rfl : k = n := by omega
        go_wp2
        go_ret
        have hxy : xs = ys := by
          have h := HE.out
          rwa [List.take_of_length_le (by rw [hlen.out]; exact Nat.le_refl _), List.take_of_length_le (by rw [hlen2.out]; exact Nat.le_refl _)] at h
        exact ⟨by simp [hxy], _, rfl⟩
  · have hne : ((n : Int) == (m : Int)) = false := by simp; omega
    go_enter Tryd.func42, Tryd.ntmps42
    go_wp2
    go_ret
    have hxy : xs ≠ ys := fun e => hnm (by rw [← hlen.out, ← hlen2.out, e])
    exact ⟨by simp [hxy], 0, rfl⟩

/-- The names are strictly ascending, neighbour by neighbour. -/
def ascB : List Ft → Bool
  | [] => true
  | [_] => true
  | f :: g :: l => lt f.1 g.1 && ascB (g :: l)

theorem ascB_iff : ∀ l : List Ft, ascB l = true ↔ Asc l
  | [] => by simp [ascB, asc_nil]
  | [f] => by simp [ascB, Asc]
  | f :: g :: l => by
    have ih := ascB_iff (g :: l)
    simp only [ascB, Bool.and_eq_true, ih]
    constructor
    · rintro ⟨h, k⟩
      refine asc_cons (fun x hx => ?_) k
      rcases List.mem_cons.1 hx with rfl | hx
      · exact h
      · exact lt_trans h (asc_head k hx)
    · intro h
      exact ⟨asc_head h (by simp), asc_tail h⟩

theorem ascB_step {l : List Ft} {k : Nat} {f g : Ft} (hf : l[k]? = some f) (hg : l[k + 1]? = some g) : ascB (l.drop k) = (lt f.1 g.1 && ascB (l.drop (k + 1))) := by
  rw [drop_of_get hf, drop_of_get hg]
  rfl

set_option maxHeartbeats 800000 in
theorem record_any (A : Option Addr) (n c : Nat) (xs : List Ft) (w : World) (ha : Sl w A n c xs) :
    Calls Tryd.prog 88 #[.slice A n c] w (QuietPost w (ascB xs)) := by
  have hn := ha.max
  have hnc := ha.le
  have hlen := Lib.hid ha.len
  go_enter Tryd.func88, Tryd.ntmps88
  go_wp2
  go_loopw [3] (fun i wr => ∃ k, k ≤ n ∧ i = .int .i64 ((k : Int) + 1) ∧ ascB xs = ascB (xs.drop k) ∧ ∃ q, wr = w.drewN q) (fun i _ => n + 1 - (intOf i).toNat)
  case atStart => exact ⟨0, Nat.zero_le _, rfl, by simp, 0, rfl⟩
  case round =>
    obtain ⟨k, hk, rfl, he, q, rfl⟩ := hrel
    have HE := Lib.hid he
    clear he
    by_cases hlt : k + 1 < n
    · obtain ⟨b, off, f, rfl, hf, h1, h2⟩ := ha.at_ (show k < n by omega)
      obtain ⟨b', off', g, hA, hg, g1, g2⟩ := ha.at_ hlt
      simp only [Option.some.injEq, Addr.mk.injEq, and_true] at hA
      obtain ⟨rfl, rfl⟩ := hA
      have HF := Lib.hid hf
      have HG := Lib.hid hg
      clear hf hg
      by_cases hfg : lt f.1 g.1 = true
      · have hq : Op.bytesLess f.1.toList g.1.toList = true := hfg
        go_wp2
        go_quiet (fail)
        go_wp2
        go_roundw
        case rel => exact ⟨k + 1, by omega, by go_num, by rw [HE.out, ascB_step HF.out HG.out, hfg]; rfl, _, rfl⟩
        case measure => simp [intOf]; omega
      · have hq : Op.bytesLess f.1.toList g.1.toList = false := by simpa [lt] using hfg
        go_wp2
        go_quiet (fail)
        go_wp2
        go_ret
        refine ⟨?_, q + nq, by rw [World.drewN_drewN]⟩
        have hz : lt f.1 g.1 = false := by simpa using hfg
        rw [HE.out, ascB_step HF.out HG.out, hz]
        rfl
    · go_wp2
      go_ret
      refine ⟨?_, _, rfl⟩
      rw [HE.out]
      have hl : (xs.drop k).length ≤ 1 := by rw [List.length_drop, hlen.out]; omega
      match xs.drop k, hl with
      | [], _ => rfl
      | [_], _ => rfl
end Go.Proofs.YthoppaemlandaaaDoor
