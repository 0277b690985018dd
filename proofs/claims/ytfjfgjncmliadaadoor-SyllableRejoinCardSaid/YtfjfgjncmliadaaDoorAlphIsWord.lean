/-
  IsWord for every string, by ValidString's contract; the reference's Over and IsWord. Conditions: the slice holds the letters, the tables lie as their texts say; for the reference: the string has at most 200 bytes.
-/
import Derived.Test.YtfjfgjncmliadaaDoorAlphUtf
import Derived.Test.YtfjfgjncmliadaaDoorShelfV
namespace Go.Proofs.YtfjfgjncmliadaaDoor
open Go.RowKit
open AlphPlain
open Go.Lib (validD)

theorem validStr_any (s : ByteArray) (w : World) (hs : s.size ≤ 9223372036854775807) (hT : Tabs w) :
    Calls Tryd.prog 46 #[.string s] w (BoolPost w (validD s.data.toList)) := Tryd.utf8_ValidString s w hs hT

theorem isWord_any (A : Option Addr) (n c : Nat) (ls : List Lt) (s : ByteArray) (w : World) (ha : Ll w A n c ls) (hs : s.size < 9223372036854775807) (hT : Tabs w) :
    Calls Tryd.prog 62 #[.slice A n c, .string s] w (BoolPost w (wordB ls s)) := by
  rw [← wordB_eq]
  exact isWord_of A n c ls s _ w ha hs (validStr_any s w (by omega) hT)

theorem has_idxI (ls : List Lt) (r : Int) : (AlphPlain.has ls r = true ∧ 0 ≤ idxI ls r) ∨ (AlphPlain.has ls r = false ∧ idxI ls r = -1) := by
  cases h : AlphPlain.has ls r
  · exact .inr ⟨rfl, idxI_not h⟩
  · refine .inl ⟨rfl, ?_⟩
    rw [idxI_has h]; omega

set_option maxRecDepth 100000 in
set_option maxHeartbeats 1600000 in
theorem refOver_any (A : Option Addr) (n c : Nat) (ls : List Lt) (s : ByteArray) (w : World) (ha : Ll w A n c ls) (hs : s.size ≤ 200) :
    Calls Tryd.prog 73 #[.slice A n c, .string s] w (BoolPost w (utfB s && allAt ls s s.size 0)) := by
  have h1 := refUtf_any s hs w
  cases hu : utfB s
  · rw [hu] at h1
    go_enter Tryd.func73, Tryd.ntmps73
    go_wp2_with fail
    refine h1.mono ?_
    rintro e w1 ⟨rfl, A1⟩
    clear h1
    go_wp2
    go_ret
    exact ⟨by simp, A1⟩
  · rw [hu] at h1
    go_enter Tryd.func73, Tryd.ntmps73
    go_wp2_with fail
    refine h1.mono ?_
    rintro e w1 ⟨rfl, A1⟩
    clear h1
    go_wp2
    go_loopw [6] (fun _ wr => ∃ (p b : Nat), wr.heap[w1.heap.size]? = some (.stringIter s p) ∧ allAt ls s s.size 0 = allAt ls s b p ∧ s.size ≤ p + b ∧ Aft w1 wr) (fun _ wr => s.size - wr.iterPos w1.heap.size)
    case atStart => exact ⟨0, s.size, World.iter_heap _ _ _, rfl, by omega, (Aft.refl _).alloc _⟩
    case round =>
      obtain ⟨p, b, hit, he, hb, haf⟩ := hrel
      have HE := Lib.hid he
      clear he
      by_cases hlt : p < s.size
      · have hnx := fun ty => Lib.run_next_any_at (P := Tryd.prog) wr w1.heap.size s p ty hit hlt
        have hwp := width_pos s p hlt
        obtain ⟨b, rfl⟩ : ∃ b', b = b' + 1 := ⟨b - 1, by omega⟩
        have he1 := HE.out
        rw [allAt, if_pos hlt] at he1
        have af1 := iter_aft haf (Nat.le_refl _) s (p + (Utf8.decode s p).2)
        have it1 := Lib.iterAt_heap wr w1.heap.size s p (p + (Utf8.decode s p).2) hit
        clear HE
        generalize Utf8.decode s p = ds at *
        have hi := fun w0 (a : Aft w w0) => refIndexP_any A n c ls ds.1 w0 (ha.aft a)
        rcases has_idxI ls ds.1 with ⟨hh, h0⟩ | ⟨hh, h0⟩
        · rw [hh] at he1
          generalize idxI ls ds.1 = ix at *
          have HE := Lib.hid he1
          have HI := Lib.hid it1
          clear he1 it1 hh
          go_wp2_with fail
          refine (hi _ (A1.trans af1)).mono ?_
          rintro e w2 ⟨rfl, rfl⟩
          clear hi
          go_wp2
          go_roundw
          case rel => exact ⟨p + ds.2, b, HI.out, by rw [HE.out]; rfl, by omega, af1⟩
          case measure =>
            simp only [World.iterPos, HI.out, hit]
            omega
        · rw [hh] at he1
          rw [h0] at hi
          have HE := Lib.hid he1
          clear he1 it1 hh h0
          go_wp2_with fail
          refine (hi _ (A1.trans af1)).mono ?_
          rintro e w2 ⟨rfl, rfl⟩
          clear hi
          go_wp2
          go_ret
          exact ⟨by rw [HE.out]; rfl, A1.trans af1⟩
      · have hnx := fun ty => Lib.run_next_end_at (P := Tryd.prog) wr w1.heap.size s p ty hit hlt
        have he1 : allAt ls s s.size 0 = true := by
          rw [HE.out]
          cases b with
          | zero => rfl
          | succ b => rw [allAt, if_neg hlt]
        have H2 := Lib.hid he1
        clear HE he1
        go_wp2
        go_ret
        exact ⟨by rw [H2.out]; rfl, A1.trans haf⟩

theorem wordB_ref (ls : List Lt) (s : ByteArray) : wordB ls s = ((utfB s && allAt ls s s.size 0) && decide ((runesOf s).length ≤ 40)) := by
  unfold wordB
  rw [utfB_valid, allAt_rd ls s _ 0 (by omega), List.drop_zero, runesOf_rd]
  cases validD s.data.toList <;> cases decide ((rdL s.data.toList).length ≤ 40) <;> simp

set_option maxRecDepth 100000 in
set_option maxHeartbeats 800000 in
theorem refIsWord_any (A : Option Addr) (n c : Nat) (ls : List Lt) (s : ByteArray) (w : World) (ha : Ll w A n c ls) (hs : s.size ≤ 200) :
    Calls Tryd.prog 64 #[.slice A n c, .string s] w (BoolPost w (wordB ls s)) := by
  have h1 := refOver_any A n c ls s w ha hs
  have HW := Lib.hid (wordB_ref ls s)
  cases hu : (utfB s && allAt ls s s.size 0)
  · rw [hu] at h1
    have HU := Lib.hid hu
    clear hu
    go_enter Tryd.func64, Tryd.ntmps64
    go_wp2_with fail
    refine h1.mono ?_
    rintro e w1 ⟨rfl, A1⟩
    clear h1
    go_wp2
    go_ret
    exact ⟨by rw [HW.out, HU.out]; rfl, A1⟩
  · rw [hu] at h1
    have HU := Lib.hid hu
    clear hu
    have e1 := conv_run s (by omega)
    go_enter Tryd.func64, Tryd.ntmps64
    go_wp2_with fail
    refine h1.mono ?_
    rintro e w1 ⟨rfl, A1⟩
    clear h1
    have A2 := A1.trans (conv_aft s w1)
    by_cases h40 : (runesOf s).length ≤ 40
    · have h40' : ((runesOf s).length : Int) ≤ 40 := by omega
      go_wp2
      go_ret
      exact ⟨by rw [HW.out, HU.out, decide_eq_true h40]; rfl, A2⟩
    · have h40' : ¬ ((runesOf s).length : Int) ≤ 40 := by omega
      go_wp2
      go_ret
      exact ⟨by rw [HW.out, HU.out, decide_eq_false h40]; first | rfl | (simp; omega), A2⟩

theorem one_strs (w : World) (s : ByteArray) : Ss (w.alloc (.cells #[.string s] 9)) (some ⟨w.heap.size, 0, none⟩) 1 1 [s] :=
  ⟨rfl, Nat.le_refl _, by omega, by omega, fun e => (by cases e), fun i x hi => by
    refine ⟨w.heap.size, 0, rfl, ?_⟩
    match i, hi with
    | 0, hi => simp at hi; subst hi; simp
    | i + 1, hi => simp at hi⟩
theorem two_strs (w : World) (s t : ByteArray) : Ss (w.alloc (.cells #[.string s, .string t] 9)) (some ⟨w.heap.size, 0, none⟩) 2 2 [s, t] :=
  ⟨rfl, Nat.le_refl _, by omega, by omega, fun e => (by cases e), fun i x hi => by
    refine ⟨w.heap.size, 0, rfl, ?_⟩
    match i, hi with
    | 0, hi => simp at hi; subst hi; simp
    | 1, hi => simp at hi; subst hi; simp
    | i + 2, hi => simp at hi⟩
end Go.Proofs.YtfjfgjncmliadaaDoor
