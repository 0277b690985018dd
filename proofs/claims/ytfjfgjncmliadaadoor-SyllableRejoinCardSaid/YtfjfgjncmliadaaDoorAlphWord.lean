/-
  IsWord: valid UTF-8, at most 40 runes, all of them letters. Condition: the slice holds the letters, the tables lie as their texts say, and ValidString's answer for this string is known (here for ASCII strings of at most 8 bytes).
-/
import Derived.Test.YtfjfgjncmliadaaDoorAlphCompare
namespace Go.Proofs.YtfjfgjncmliadaaDoor
open Go.RowKit
open AlphPlain

/-- Every byte of s is below 128. -/
def Ascii (s : ByteArray) : Prop := ∀ i (h : i < s.size), (s[i]'h).toNat < 128

def strLen : Value → Nat
  | .string x => x.size
  | _ => 0

set_option maxRecDepth 100000 in
set_option maxHeartbeats 1600000 in
theorem validShort_any (s : ByteArray) (w : World) (ha : Ascii s) (h8 : s.size ≤ 8) :
    Calls Tryd.prog 46 #[.string s] w (BoolPost w true) := by
  go_enter Tryd.func46, Tryd.ntmps46
  go_wp2
  go_loopw [0] (fun v wr => ∃ (p : Nat), v = .string (s.extract p s.size) ∧ p ≤ s.size ∧ Aft w wr) (fun v _ => strLen v)
  case atStart => exact ⟨0, by simp, Nat.zero_le _, Aft.refl _⟩
  case round =>
    obtain ⟨p, rfl, hp, haf⟩ := hrel
    by_cases hlt : p < s.size
    · have hsz := ext_size s p
      have hpos : 0 < (s.extract p s.size).size := by omega
      have hb : ((s.extract p s.size)[0]'hpos).toNat < 128 := by
        have : (s.extract p s.size)[0]'hpos = s[p]'hlt := by
          rw [ByteArray.getElem_extract]; simp
        rw [this]; exact ha p hlt
      have hext := ext_ext s p 1
      generalize s.extract p s.size = T at *
      have HX := Lib.hid hext
      clear hext
      go_wp2
      go_roundw
      case rel => exact ⟨p + 1, by rw [← HX.out, hsz], by omega, haf⟩
      case measure => simp only [strLen]; rw [ByteArray.size_extract]; omega
    · have hsz := ext_size s p
      have hz : (s.extract p s.size).size = 0 := by omega
      clear hsz
      generalize s.extract p s.size = T at *
      go_wp2
      go_ret
      exact ⟨rfl, haf⟩

/-- All runes of s from p on are letters (b: at least as many rounds as there are bytes left). -/
def allAt (ls : List Lt) (s : ByteArray) : Nat → Nat → Bool
  | 0, _ => true
  | b + 1, p => if p < s.size then AlphPlain.has ls (Utf8.decode s p).1 && allAt ls s b (p + (Utf8.decode s p).2) else true

def isWordB (ls : List Lt) (s : ByteArray) (v : Bool) : Bool := v && decide (Lib.runeCount s ≤ 40) && allAt ls s s.size 0

set_option maxRecDepth 100000 in
set_option maxHeartbeats 1600000 in
theorem isWord_of (A : Option Addr) (n c : Nat) (ls : List Lt) (s : ByteArray) (v : Bool) (w : World) (ha : Ll w A n c ls) (hs : s.size < 9223372036854775807)
    (hv : Calls Tryd.prog 46 #[.string s] w (BoolPost w v)) :
    Calls Tryd.prog 62 #[.slice A n c, .string s] w (BoolPost w (isWordB ls s v)) := by
  cases v
  · go_enter Tryd.func62, Tryd.ntmps62
    go_wp2_with fail
    refine hv.mono ?_
    rintro e w1 ⟨rfl, A1⟩
    clear hv
    go_wp2
    go_ret
    exact ⟨by simp [isWordB], A1⟩
  · by_cases h40 : Lib.runeCount s ≤ 40
    · have h40' : ((Lib.runeCount s : Nat) : Int) ≤ 40 := by omega
      have HW := Lib.hid (show isWordB ls s true = allAt ls s s.size 0 by simp [isWordB, h40])
      go_enter Tryd.func62, Tryd.ntmps62
      go_wp2_with fail
      refine hv.mono ?_
      rintro e w1 ⟨rfl, A1⟩
      clear hv
      go_wp2_with fail
      refine (Tryd.utf8_RuneCountInString s w1 hs).mono ?_
      rintro e w2 ⟨rfl, ps, rfl⟩
      have A2 : Aft w (w1.iter s ps) := A1.alloc _
      generalize w1.iter s ps = w2 at *
      generalize Lib.runeCount s = RC at *
      go_wp2_with fail
      refine (positions_any A n c ls w2 (ha.aft A2)).mono ?_
      rintro e w3 ⟨Bm, k, D, rfl, hp, A3⟩
      have A3' := A2.trans A3
      go_wp2
      go_loopw [7] (fun _ wr => ∃ (p b : Nat), wr.heap[w3.heap.size]? = some (.stringIter s p) ∧ allAt ls s s.size 0 = allAt ls s b p ∧ s.size ≤ p + b ∧ Aft w3 wr) (fun _ wr => s.size - wr.iterPos w3.heap.size)
      case atStart => exact ⟨0, s.size, World.iter_heap _ _ _, rfl, by omega, (Aft.refl _).alloc _⟩
      case round =>
        obtain ⟨p, b, hit, he, hb, haf⟩ := hrel
        have HE := Lib.hid he
        clear he
        by_cases hlt : p < s.size
        · have hnx := fun ty => Lib.run_next_any_at (P := Tryd.prog) wr w3.heap.size s p ty hit hlt
          have hwp := width_pos s p hlt
          have hwf1 := decode_wf s p
          obtain ⟨b, rfl⟩ : ∃ b', b = b' + 1 := ⟨b - 1, by omega⟩
          have he1 := HE.out
          rw [allAt, if_pos hlt] at he1
          have af1 := iter_aft haf (Nat.le_refl _) s (p + (Utf8.decode s p).2)
          have it1 := Lib.iterAt_heap wr w3.heap.size s p (p + (Utf8.decode s p).2) hit
          have hl := (hp.aft af1).run hwf1
          clear HE
          generalize Utf8.decode s p = ds at *
          cases hh : AlphPlain.has ls ds.1
          · rw [hh] at hl he1
            have HE := Lib.hid he1
            clear he1 it1
            go_wp2
            go_ret
            exact ⟨by rw [HW.out, HE.out]; rfl, A3'.trans af1⟩
          · rw [hh] at hl he1
            have HE := Lib.hid he1
            have HI := Lib.hid it1
            clear he1 it1
            go_wp2
            go_roundw
            case rel => exact ⟨p + ds.2, b, HI.out, by rw [HE.out]; rfl, by omega, af1⟩
            case measure =>
              simp only [World.iterPos, HI.out, hit]
              omega
        · have hnx := fun ty => Lib.run_next_end_at (P := Tryd.prog) wr w3.heap.size s p ty hit hlt
          have he1 : allAt ls s s.size 0 = true := by
            rw [HE.out]
            cases b with
            | zero => rfl
            | succ b => rw [allAt, if_neg hlt]
          have H2 := Lib.hid he1
          clear HE he1
          go_wp2
          go_ret
          exact ⟨by rw [HW.out, H2.out]; rfl, A3'.trans haf⟩
    · have h40' : ¬ ((Lib.runeCount s : Nat) : Int) ≤ 40 := by omega
      have HW := Lib.hid (show isWordB ls s true = false by simp [isWordB, h40])
      go_enter Tryd.func62, Tryd.ntmps62
      go_wp2_with fail
      refine hv.mono ?_
      rintro e w1 ⟨rfl, A1⟩
      clear hv
      go_wp2_with fail
      refine (Tryd.utf8_RuneCountInString s w1 hs).mono ?_
      rintro e w2 ⟨rfl, ps, rfl⟩
      have A2 : Aft w (w1.iter s ps) := A1.alloc _
      generalize w1.iter s ps = w2 at *
      generalize Lib.runeCount s = RC at *
      go_wp2
      go_ret
      exact ⟨by rw [HW.out]; rfl, A2⟩
end Go.Proofs.YtfjfgjncmliadaaDoor
