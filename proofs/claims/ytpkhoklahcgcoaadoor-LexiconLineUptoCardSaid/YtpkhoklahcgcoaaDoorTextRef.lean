/-
  The reference's until and Text. Conditions: the slice holds the features; the whole text is shorter than Go's own limit.
-/
import Derived.Test.YtpkhoklahcgcoaaDoorTextPlain
namespace Go.Proofs.YtpkhoklahcgcoaaDoor
open Go.RowKit
open FeatPlain

/-- How many bytes come before the first c. -/
def upTo (c : UInt8) : Bt → Nat
  | [] => 0
  | x :: t => if x = c then 0 else upTo c t + 1
theorem upTo_le (c : UInt8) : ∀ t, upTo c t ≤ t.length
  | [] => Nat.le_refl _
  | x :: t => by
    rw [upTo]
    split
    · simp
    · have := upTo_le c t; simp; omega
theorem upTo_split {c : UInt8} : ∀ {t : Bt}, upTo c t < t.length → t = t.take (upTo c t) ++ c :: t.drop (upTo c t + 1) ∧ c ∉ t.take (upTo c t)
  | x :: t, h => by
    rw [upTo] at h ⊢
    split
    · next e => subst e; simp
    · next e =>
      rw [if_neg e] at h
      obtain ⟨h1, h2⟩ := upTo_split (t := t) (by simpa using h)
      refine ⟨?_, ?_⟩
      · rw [List.take_succ_cons, List.drop_succ_cons, List.cons_append, ← h1]
      · rw [List.take_succ_cons]
        intro hm
        rcases List.mem_cons.1 hm with k | k
        · exact e k.symm
        · exact h2 k
theorem upTo_none {c : UInt8} : ∀ {t : Bt}, ¬ upTo c t < t.length → c ∉ t
  | [], _ => by simp
  | x :: t, h => by
    rw [upTo] at h
    split at h
    · simp at h
    · next e =>
      have h1 := upTo_none (t := t) (by simpa using h)
      intro hm
      rcases List.mem_cons.1 hm with k | k
      · exact e k.symm
      · exact h1 k
theorem upTo_not {c : UInt8} : ∀ {t : Bt} {k : Nat}, k ≤ upTo c t → c ∉ t.take k
  | [], k, _ => by simp
  | x :: t, 0, _ => by simp
  | x :: t, k + 1, h => by
    rw [upTo] at h
    split at h
    · omega
    · next e =>
      rw [List.take_succ_cons]
      intro hm
      rcases List.mem_cons.1 hm with k' | k'
      · exact e k'.symm
      · exact upTo_not (t := t) (by omega) k'

theorem drop_byte (s : ByteArray) (k : Nat) (h : k < s.size) : s.data.toList.drop k = s[k] :: s.data.toList.drop (k + 1) := by
  rw [List.drop_eq_getElem_cons (by simpa using h)]; rfl

set_option maxRecDepth 100000 in
set_option maxHeartbeats 800000 in
theorem until_any (s : ByteArray) (at_ : Nat) (c : UInt8) (cv : Int) (hcv : cv = (c.toNat : Int)) (r : Nat) (hr : r = at_ + upTo c (s.data.toList.drop at_)) (w : World) (hs : s.size ≤ 1099511627776) (ha : at_ ≤ s.size) :
    Calls Tryd.prog 51 #[.string s, .int .i64 (at_ : Nat), .int .u8 cv] w (fun e w' => e = .returned (.int .i64 (r : Nat)) ∧ w = w') := by
  have HCV := Lib.hid hcv
  have HR0 := Lib.hid hr
  clear hcv hr
  go_enter Tryd.func51, Tryd.ntmps51
  go_wp2
  go_loop [1] (fun i => ∃ k : Nat, at_ ≤ k ∧ k ≤ s.size ∧ i = .int .i64 (k : Nat) ∧ at_ + upTo c (s.data.toList.drop at_) = k + upTo c (s.data.toList.drop k)) (fun i => s.size - (intOf i).toNat)
  case atStart => exact ⟨at_, Nat.le_refl _, ha, rfl, rfl⟩
  case round =>
    obtain ⟨k, hk0, hk, rfl, he⟩ := hrel
    have HE := Lib.hid he
    clear he
    by_cases hlt : k < s.size
    · have hlt' : (k : Int) < (s.size : Int) := by omega
      by_cases hq : s[k] = c
      · have b1 : ((s[k].toNat : Int) == cv) = true := by rw [HCV.out, hq]; simp
        have b2 : ((s[k].toNat : Int) != cv) = false := by rw [HCV.out, hq]; simp
        have hu : upTo c (s.data.toList.drop k) = 0 := by rw [drop_byte s k hlt, upTo, if_pos hq]
        have hr : r = k := by rw [HR0.out, HE.out, hu]; rfl
        have HR := Lib.hid hr
        clear hu hr hq
        go_wp2
        go_ret
        exact ⟨by rw [HR.out]; rfl, rfl⟩
      · have hne : (s[k].toNat : Int) ≠ cv := by
          rw [HCV.out]
          intro e
          exact hq (UInt8.toNat_inj.1 (by omega))
        have b1 : ((s[k].toNat : Int) == cv) = false := by simpa using hne
        have b2 : ((s[k].toNat : Int) != cv) = true := by simpa using hne
        have hu : upTo c (s.data.toList.drop k) = upTo c (s.data.toList.drop (k + 1)) + 1 := by rw [drop_byte s k hlt, upTo, if_neg hq]
        have HU := Lib.hid hu
        clear hu hq hne
        go_wp2
        go_round
        case rel => exact ⟨k + 1, by omega, by omega, by go_num, by have := HE.out; have := HU.out; omega⟩
        case measure => simp [intOf]; omega
    · obtain rfl : k = s.size := by omega
      have hu : upTo c (s.data.toList.drop s.size) = 0 := by rw [List.drop_of_length_le (by simp)]; rfl
      have hr : r = s.size := by rw [HR0.out, HE.out, hu]; rfl
      have HR := Lib.hid hr
      clear hu hr
      go_wp2
      go_ret
      exact ⟨by rw [HR.out]; rfl, rfl⟩

theorem ba_append (a b : Bt) : ba a ++ ba b = ba (a ++ b) := by simp [ba, ByteArray.ext_iff]
theorem ba_of (s : ByteArray) : s = ba s.data.toList := (ba_self s).symm
theorem text_later (acc : Bt) (f : Ft) : (((ba acc ++ ba [32]) ++ f.1) ++ ba [61]) ++ f.2 = ba (acc ++ [32] ++ one f) := by
  conv => lhs; rw [ba_of f.1, ba_of f.2, ba_append, ba_append, ba_append, ba_append]
  simp [one]
theorem text_first (acc : Bt) (f : Ft) : ((ba acc ++ f.1) ++ ba [61]) ++ f.2 = ba (acc ++ [] ++ one f) := by
  conv => lhs; rw [ba_of f.1, ba_of f.2, ba_append, ba_append, ba_append]
  simp [one]

set_option maxRecDepth 100000 in
set_option maxHeartbeats 1600000 in
theorem refText_any (A : Option Addr) (n c : Nat) (xs : List Ft) (w : World) (ha : Sl w A n c xs) (hz : (text xs).length ≤ 140737488355328) :
    Calls Tryd.prog 24 #[.slice A n c] w (StrPost w (text xs)) := by
  have hn := ha.max
  have hnc := ha.le
  have hlen := Lib.hid ha.len
  have HZ := Lib.hid hz
  clear hz
  go_enter Tryd.func24, Tryd.ntmps24
  go_wp2
  go_loopw [3, 4] (fun v i wr => ∃ k acc, k ≤ n ∧ i = .int .i64 (k : Nat) ∧ v = .string (ba acc) ∧ textTo xs [] true = textTo (xs.drop k) acc (decide (k = 0)) ∧ Aft w wr) (fun _ i _ => n - (intOf i).toNat)
  case atStart => exact ⟨0, [], Nat.zero_le _, rfl, rfl, by simp, Aft.refl _⟩
  case round =>
    obtain ⟨k, acc, hk, rfl, rfl, htx, haf⟩ := hrel
    have HT := Lib.hid htx
    clear htx
    by_cases hlt : k < n
    · obtain ⟨b, off, f, rfl, hf, h1, h2⟩ := ha.at_ hlt
      have c1 := haf.cell h1
      have c2 := haf.cell h2
      have HF := Lib.hid hf
      have hll := step_length HZ.out HT.out HF.out
      have hsz := ba_size acc
      have HSZ := Lib.hid hsz
      clear hf h1 h2 hsz
      by_cases hk0 : k = 0
      · subst hk0
        simp only [Nat.zero_mul, Nat.add_zero] at c1 c2
        simp only [decide_true, if_true] at hll
        have l0 : (ba acc).size + f.1.size + 1 + f.2.size ≤ 140737488355328 := by rw [HSZ.out]; omega
        have eq := text_first acc f
        have EQ := Lib.hid eq
        clear eq hll
        rw [show (((0 : Nat)) : Int) = 0 from rfl]
        generalize ba acc = S at *
        have z1 : S.size + f.1.size ≤ 9223372036854775807 := by omega
        have z2 : (S ++ f.1).size + 1 ≤ 9223372036854775807 := by rw [ByteArray.size_append]; omega
        have z3 : (S ++ f.1 ++ ⟨#[61]⟩).size + f.2.size ≤ 9223372036854775807 := by rw [ByteArray.size_append, ByteArray.size_append]; have : (ByteArray.mk #[61]).size = 1 := rfl; omega
        go_wp2
        go_quiet (fail)
        go_wp2
        go_roundw
        case rel => exact ⟨1, acc ++ [] ++ one f, by omega, by go_num, by rw [← EQ.out]; rfl, step_text HT.out HF.out, haf.drewN _⟩
        case measure => simp [intOf]; omega
      · have hk1 : (0 : Int) < (k : Int) := by omega
        have hkd : decide (k = 0) = false := decide_eq_false hk0
        have HT2 := HT.out
        rw [hkd] at HT2
        have HTT := Lib.hid HT2
        rw [hkd] at hll
        have l0 : (ba acc).size + 1 + f.1.size + 1 + f.2.size ≤ 140737488355328 := by rw [HSZ.out]; simpa using hll
        have eq := text_later acc f
        have EQ := Lib.hid eq
        clear eq hll HT2 hkd
        generalize ba acc = S at *
        have q1 : (ByteArray.mk #[32]).size = 1 := rfl
        have q2 : (ByteArray.mk #[61]).size = 1 := rfl
        have z0 : S.size + 1 ≤ 9223372036854775807 := by omega
        have z1 : (S ++ ⟨#[32]⟩).size + f.1.size ≤ 9223372036854775807 := by rw [ByteArray.size_append]; omega
        have z2 : (S ++ ⟨#[32]⟩ ++ f.1).size + 1 ≤ 9223372036854775807 := by rw [ByteArray.size_append, ByteArray.size_append]; omega
        have z3 : (S ++ ⟨#[32]⟩ ++ f.1 ++ ⟨#[61]⟩).size + f.2.size ≤ 9223372036854775807 := by rw [ByteArray.size_append, ByteArray.size_append, ByteArray.size_append]; omega
        clear q1 q2
        go_wp2
        go_quiet (fail)
        go_wp2
        go_roundw
        case rel => exact ⟨k + 1, acc ++ [32] ++ one f, by omega, by go_num, by rw [← EQ.out]; rfl, step_text HTT.out HF.out, haf.drewN _⟩
        case measure => simp [intOf]; omega
    · obtain rfl : k = n := by omega
      go_wp2
      go_ret
      refine ⟨?_, haf⟩
      rw [← textTo_all, HT.out, List.drop_of_length_le (by rw [hlen.out]; exact Nat.le_refl _)]
      rfl
end Go.Proofs.YtpkhoklahcgcoaaDoor
