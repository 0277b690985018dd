/-
  skip returns the features from the first one on whose name does not come before the given one. Condition: the slice holds the features.
-/
import Derived.Test.YtallloempmmgpaaFeatBase
namespace Go.Proofs.Ytallloempmmgpaa
open Go.RowKit
open FeatPlain

def SkipPost (w : World) (l : List Ft) (e : Ending) (w' : World) : Prop := (∃ A' n' c', e = .returned (.slice A' n' c') ∧ Sl w A' n' c' l) ∧ w = w'

set_option maxHeartbeats 400000 in
theorem skip_any (A : Option Addr) (n c : Nat) (fs : List Ft) (name : ByteArray) (w : World) (h : Sl w A n c fs) :
    Calls Try.prog 21 #[.slice A n c, .string name] w (SkipPost w (skip name fs)) := by
  go_enter Try.func21, Try.ntmps21
  go_wp2
  go_loop [0] (fun v => ∃ A' n' c' fs', v = .slice A' n' c' ∧ Sl w A' n' c' fs' ∧ skip name fs = skip name fs') (fun v => lenOf v)
  case atStart => exact ⟨A, n, c, fs, rfl, h, rfl⟩
  case round =>
    obtain ⟨A', n', c', fs', rfl, hs, he⟩ := hrel
    have HE := Lib.hid he
    clear he
    cases fs' with
    | nil =>
      obtain rfl : n' = 0 := by have := hs.len; simp at this; omega
      go_wp2
      go_ret
      exact ⟨⟨A', 0, c', rfl, by rw [HE.out]; exact hs⟩, rfl⟩
    | cons f fs' =>
      obtain ⟨m, rfl⟩ : ∃ m, n' = m + 1 := ⟨fs'.length, by have := hs.len; simp at this; omega⟩
      obtain ⟨b, off, rfl, h1, h2⟩ := hs.head
      have hle := hs.le
      have hmx := hs.max
      by_cases hlt : lt f.1 name = true
      · have hlt' : Op.bytesLess f.1.toList name.toList = true := hlt
        go_wp2
        go_round
        case rel => exact ⟨_, _, _, fs', rfl, hs.cut, by rw [HE.out]; simp [skip, hlt]⟩
        case measure => simp [lenOf]
      · have hlt' : Op.bytesLess f.1.toList name.toList = false := by simpa [lt] using hlt
        go_wp2
        go_ret
        refine ⟨⟨_, _, _, rfl, ?_⟩, rfl⟩
        rw [HE.out]
        have e : skip name (f :: fs') = f :: fs' := by simp [skip, hlt]
        rw [e]
        exact hs
end Go.Proofs.Ytallloempmmgpaa
