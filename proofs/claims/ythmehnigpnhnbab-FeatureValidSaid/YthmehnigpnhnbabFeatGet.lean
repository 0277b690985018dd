/-
  The reference's Valid returns whether a list is a valid record; Get returns the value of the first feature with a name. Condition: the slice holds the features, and no string is longer than any string can be.
-/
import Derived.Test.YthmehnigpnhnbabFeatIndex
import Derived.Test.YthmehnigpnhnbabFeatValid
namespace Go.Proofs.Ythmehnigpnhnbab
open Go.RowKit
open FeatPlain

theorem valid_names {xs : List Ft} (h : (xs.take xs.length).all named = true) : validB xs = (decide (xs.length ≤ 8) && ascB xs) := by
  rw [List.take_length] at h
  simp [validB, h]

set_option maxRecDepth 100000 in
set_option maxHeartbeats 1600000 in
theorem refValid_any (A : Option Addr) (n c : Nat) (xs : List Ft) (w : World) (ha : Sl w A n c xs) (hz : Sized xs) :
    Calls Try.prog 14 #[.slice A n c] w (QuietPost w (validB xs)) := by
  have hn := ha.max
  have hnc := ha.le
  have hlen := Lib.hid ha.len
  go_enter Try.func14, Try.ntmps14
  go_wp2
  go_loop [3] (fun i => ∃ k : Nat, k ≤ n ∧ i = .int .i64 k ∧ (xs.take k).all named = true) (fun i => n - (intOf i).toNat)
  case atStart => exact ⟨0, Nat.zero_le _, rfl, by simp⟩
  case round =>
    obtain ⟨k, hk, rfl, hall⟩ := hrel
    have HA := Lib.hid hall
    clear hall
    by_cases hlt : k < n
    · obtain ⟨b, off, f, rfl, hf, h1, h2⟩ := ha.at_ hlt
      have hz1 := hz.get hf
      have HF := Lib.hid hf
      clear hf
      by_cases n1 : isName f.1 = true
      · by_cases n2 : isName f.2 = true
        · have hnm : named f = true := by simp [named, n1, n2]
          go_wp2_with fail
          refine (name_any _ _ hz1.1).mono ?_
          rintro e w1 ⟨rfl, rfl⟩
          go_wp2_with fail
          refine (name_any _ _ hz1.2).mono ?_
          rintro e w1 ⟨rfl, rfl⟩
          go_wp2
          go_round
          case rel => exact ⟨k + 1, by omega, by go_num, by rw [List.take_add_one, List.all_append, HA.out, HF.out]; simp [hnm]⟩
          case measure => simp [intOf]; omega
        · have hnm : named f = false := by simp [named, n2]
          have n2' : isName f.2 = false := by simpa using n2
          clear n2
          go_wp2_with fail
          refine (name_any _ _ hz1.1).mono ?_
          rintro e w1 ⟨rfl, rfl⟩
          go_wp2_with fail
          refine (name_any _ _ hz1.2).mono ?_
          rintro e w1 ⟨rfl, rfl⟩
          go_wp2
          go_ret
          exact ⟨by rw [valid_bad HF.out hnm]; rfl, 0, rfl⟩
      · have hnm : named f = false := by simp [named, n1]
        have n1' : isName f.1 = false := by simpa using n1
        clear n1
        go_wp2_with fail
        refine (name_any _ _ hz1.1).mono ?_
        rintro e w1 ⟨rfl, rfl⟩
        go_wp2
        go_ret
        exact ⟨by rw [valid_bad HF.out hnm]; rfl, 0, rfl⟩
    · obtain rfl : k = n := by omega
      by_cases h8 : k ≤ 8
      · have h8' : (k : Int) ≤ 8 := by omega
        go_wp2_with fail
        refine (record_any A k c xs w ha).mono ?_
        rintro e w1 ⟨rfl, q1, rfl⟩
        go_wp2
        go_ret
        refine ⟨?_, q1, rfl⟩
        rw [valid_names (by rw [hlen.out]; exact HA.out), hlen.out, decide_eq_true h8]
        rfl
      · have h8' : ¬ (k : Int) ≤ 8 := by omega
        go_wp2
        go_ret
        exact ⟨by rw [valid_long (by rw [hlen.out]; exact h8)]; rfl, 0, rfl⟩

def GetPost (w : World) (xs : List Ft) (nm : ByteArray) (e : Ending) (w' : World) : Prop := Aft w w' ∧ match idx xs nm with
  | none => e = .returned (.tuple #[.string ⟨#[]⟩, .bool false])
  | some k => ∃ g, xs[k]? = some g ∧ e = .returned (.tuple #[.string g.2, .bool true])

set_option maxHeartbeats 800000 in
theorem get_any (A : Option Addr) (n c : Nat) (xs : List Ft) (nm : ByteArray) (w : World) (ha : Sl w A n c xs) :
    Calls Try.prog 16 #[.slice A n c, .string nm] w (GetPost w xs nm) := by
  have hn := ha.max
  have hnc := ha.le
  have hlen := Lib.hid ha.len
  go_enter Try.func16, Try.ntmps16
  go_wp2
  go_loopw [10] (fun i wr => ∃ k : Nat, k ≤ n ∧ i = .int .i64 k ∧ NoTo xs nm k ∧ Aft w wr) (fun i _ => n - (intOf i).toNat)
  case atStart => exact ⟨0, Nat.zero_le _, rfl, fun j f h => by omega, Aft.refl _⟩
  case round =>
    obtain ⟨k, hk, rfl, hno, haf⟩ := hrel
    have HN := Lib.hid hno
    clear hno
    by_cases hlt : k < n
    · obtain ⟨b, off, f, rfl, hf, h1, h2⟩ := ha.at_ hlt
      have c1 := haf.cell h1
      have c2 := haf.cell h2
      have HF := Lib.hid hf
      clear hf h1 h2
      by_cases he : f.1 = nm
      · have hb : (f.1.toList == nm.toList) = true := by rw [he]; simp
        have HE := Lib.hid he
        clear he
        go_wp2
        go_ret2
        refine ⟨haf.alloc _, ?_⟩
        rw [idx_found HN.out HF.out HE.out]
        exact ⟨f, HF.out, rfl⟩
      · have hb : (f.1.toList == nm.toList) = false := by rw [toList_beq]; simp [he]
        go_wp2
        go_roundw
        case rel => exact ⟨k + 1, by omega, by go_num, noTo_succ HN.out HF.out he, haf.alloc _⟩
        case measure => simp [intOf]; omega
    · obtain rfl : k = n := by omega
      go_wp2
      go_ret2
      refine ⟨haf, ?_⟩
      rw [idx_none (by rw [hlen.out]; exact HN.out)]
      rfl
end Go.Proofs.Ythmehnigpnhnbab
