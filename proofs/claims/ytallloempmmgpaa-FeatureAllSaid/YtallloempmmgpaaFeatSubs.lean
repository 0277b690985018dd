/-
  Subsumes returns whether every feature of the first list is met in the second one, as it goes through both. Condition: the slices hold the features.
-/
import Derived.Test.YtallloempmmgpaaFeatSkip
namespace Go.Proofs.Ytallloempmmgpaa
open Go.RowKit
open FeatPlain

def BoolPost (w : World) (r : Bool) (e : Ending) (w' : World) : Prop := e = .returned (.bool r) ∧ Aft w w'

set_option maxHeartbeats 800000 in
theorem subs_any (A : Option Addr) (n c : Nat) (xs : List Ft) (B : Option Addr) (m d : Nat) (ys : List Ft) (w : World) (ha : Sl w A n c xs) (hb : Sl w B m d ys) :
    Calls Try.prog 11 #[.slice A n c, .slice B m d] w (BoolPost w (subs xs ys)) := by
  have hn := ha.max
  have hnc := ha.le
  have hlen := Lib.hid ha.len
  go_enter Try.func11, Try.ntmps11
  go_wp2
  go_loopw [1, 9] (fun v i wr => ∃ k B' m' d' ys', k ≤ n ∧ i = .int .i64 (k : Nat) ∧ v = .slice B' m' d' ∧ Sl wr B' m' d' ys' ∧ subs xs ys = subs (xs.drop k) ys' ∧ Aft w wr) (fun _ i _ => n - (intOf i).toNat)
  case atStart => exact ⟨0, B, m, d, ys, Nat.zero_le _, rfl, rfl, hb, by simp, Aft.refl _⟩
  case round =>
    obtain ⟨k, B', m', d', ys', hk, rfl, rfl, hs, he, haf⟩ := hrel
    have HE := Lib.hid he
    clear he
    by_cases hlt : k < n
    · obtain ⟨b, off, f, rfl, hf, h1, h2⟩ := ha.at_ hlt
      have c1 := haf.cell h1
      have c2 := haf.cell h2
      have HF := Lib.hid hf
      clear hf h1 h2
      go_wp2_with fail
      refine (skip_any _ _ _ ys' f.1 _ (hs.aft ((Aft.refl _).alloc _))).mono ?_
      rintro e w1 ⟨⟨A2, n2, c2', rfl, hs2⟩, rfl⟩
      cases hsk : skip f.1 ys' with
      | nil =>
        rw [hsk] at hs2
        obtain rfl : n2 = 0 := by have := hs2.len; simp at this; omega
        have HK := Lib.hid hsk
        clear hsk
        go_wp2
        go_quiet (fail)
        go_wp2
        go_ret
        refine ⟨?_, ((haf.alloc _)).drewN _⟩
        rw [HE.out, drop_of_get HF.out, subs, HK.out]
        rfl
      | cons g l =>
        rw [hsk] at hs2
        obtain ⟨q, rfl⟩ : ∃ q, n2 = q + 1 := ⟨l.length, by have := hs2.len; simp at this; omega⟩
        have HK := Lib.hid hsk
        clear hsk
        obtain ⟨b2, o2, rfl, g1, g2⟩ := hs2.head
        by_cases hgf : g = f
        · have HG := Lib.hid hgf
          have hq : feq g f = true := feq_true hgf
          clear hgf
          go_wp2
          go_quiet (fail)
          go_wp2
          go_roundw
          case rel => exact ⟨k + 1, _, _, _, g :: l, by omega, by go_num, rfl, hs2.drewN _, by rw [HE.out, drop_of_get HF.out, subs, HK.out]; simp [HG.out], (haf.alloc _).drewN _⟩
          case measure => simp [intOf]; omega
        · have hq : feq g f = false := feq_false hgf
          go_wp2
          go_quiet (fail)
          go_wp2
          go_ret
          refine ⟨?_, ((haf.alloc _)).drewN _⟩
          rw [HE.out, drop_of_get HF.out, subs, HK.out]
          simp [hgf]
    · obtain rfl : k = n := by omega
      go_wp2
      go_ret
      refine ⟨?_, haf⟩
      rw [HE.out, List.drop_of_length_le (by have := hlen.out; omega)]
      rfl
end Go.Proofs.Ytallloempmmgpaa
