/-
  Compare: the first two runes that differ decide, letters by their indices, before all other runes; a string comes before its continuations. Condition: the slice holds the letters; the tables of package unicode/utf8 lie as their texts say.
-/
import Derived.Test.YtgnhkacndmdfgaaDoorAlphIndex
import Derived.Test.YtgnhkacndmdfgaaDoorShelf
import Derived.Laws.EntriesVeiled
import Derived.Lib.OthersKept
import Derived.Lib.RuneCountTail
import Derived.Shelf.Unicode.DecodeLastEight
namespace Go.Proofs.YtgnhkacndmdfgaaDoor
open Go.RowKit
open AlphPlain

/-- What cmp.Compare returns of two numbers. -/
def sgn (a b : Int) : Int := if a < b then -1 else if b < a then 1 else 0

theorem nanI_any (a : Int) (w : World) : Calls Tryd.prog 59 #[.int .i64 a] w (fun e w' => e = .returned (.bool false) ∧ w = w') := by
  go_enter Tryd.func59, Tryd.ntmps59
  go_wp2
  go_ret
  exact ⟨by simp, rfl⟩
theorem nanR_any (a : Int) (w : World) : Calls Tryd.prog 62 #[.int .i32 a] w (fun e w' => e = .returned (.bool false) ∧ w = w') := by
  go_enter Tryd.func62, Tryd.ntmps62
  go_wp2
  go_ret
  exact ⟨by simp, rfl⟩

theorem cmpI_any (a b : Int) (w : World) : Calls Tryd.prog 55 #[.int .i64 a, .int .i64 b] w (fun e w' => e = .returned (.int .i64 (sgn a b)) ∧ w = w') := by
  by_cases h1 : a < b <;> by_cases h2 : b < a <;>
  · go_enter Tryd.func55, Tryd.ntmps55
    go_wp2_with fail
    refine (nanI_any a w).mono ?_
    rintro e w1 ⟨rfl, rfl⟩
    go_wp2_with fail
    refine (nanI_any b w).mono ?_
    rintro e w1 ⟨rfl, rfl⟩
    go_wp2
    go_ret
    exact ⟨by simp [sgn] <;> omega, rfl⟩
theorem cmpR_any (a b : Int) (w : World) : Calls Tryd.prog 58 #[.int .i32 a, .int .i32 b] w (fun e w' => e = .returned (.int .i64 (sgn a b)) ∧ w = w') := by
  by_cases h1 : a < b <;> by_cases h2 : b < a <;>
  · go_enter Tryd.func58, Tryd.ntmps58
    go_wp2_with fail
    refine (nanR_any a w).mono ?_
    rintro e w1 ⟨rfl, rfl⟩
    go_wp2_with fail
    refine (nanR_any b w).mono ?_
    rintro e w1 ⟨rfl, rfl⟩
    go_wp2
    go_ret
    exact ⟨by simp [sgn] <;> omega, rfl⟩

/-- Two different runes: letters by their indices, then all other runes by code point. -/
def cmpRunes (ls : List Lt) (r o : Int) : Int :=
  if AlphPlain.has ls r then (if AlphPlain.has ls o then sgn (pos ls r : Nat) (pos ls o : Nat) else -1) else (if AlphPlain.has ls o then 1 else sgn r o)

theorem cmpRunes_any (Bm k : Nat) (D : DataW Unit) (ls : List Lt) (r o : Int) (w : World) (hp : PosIn w Bm k D ls) (hr : (Lit.int .i32 r).wf = true) (ho : (Lit.int .i32 o).wf = true) :
    Calls Tryd.prog 54 #[.map (some Bm), .int .i32 r, .int .i32 o] w (fun e w' => e = .returned (.int .i64 (cmpRunes ls r o)) ∧ w = w') := by
  have l1 := hp.run hr
  have l2 := hp.run ho
  cases h1 : AlphPlain.has ls r
  · cases h2 : AlphPlain.has ls o
    · rw [h1] at l1
      rw [h2] at l2
      go_enter Tryd.func54, Tryd.ntmps54
      go_wp2_with fail
      refine (cmpR_any r o w).mono ?_
      rintro e w1 ⟨rfl, rfl⟩
      go_wp2
      go_ret
      exact ⟨by simp [cmpRunes, h1, h2], rfl⟩
    · rw [h1] at l1
      rw [h2] at l2
      go_enter Tryd.func54, Tryd.ntmps54
      go_wp2
      go_ret
      exact ⟨by simp [cmpRunes, h1, h2], rfl⟩
  · cases h2 : AlphPlain.has ls o
    · rw [h1] at l1
      rw [h2] at l2
      go_enter Tryd.func54, Tryd.ntmps54
      go_wp2
      go_ret
      exact ⟨by simp [cmpRunes, h1, h2], rfl⟩
    · rw [h1] at l1
      rw [h2] at l2
      go_enter Tryd.func54, Tryd.ntmps54
      go_wp2_with fail
      refine (cmpI_any _ _ w).mono ?_
      rintro e w1 ⟨rfl, rfl⟩
      go_wp2
      go_ret
      exact ⟨by simp [cmpRunes, h1, h2], rfl⟩

/-- s from pos on against t from q on (b: at least as many rounds as there are bytes left). -/
def cmpAt (ls : List Lt) (s t : ByteArray) : Nat → Nat → Nat → Int
  | 0, _, q => if q < t.size then -1 else 0
  | b + 1, p, q => if p < s.size then (if q < t.size then (if (Utf8.decode s p).1 = (Utf8.decode t q).1 then cmpAt ls s t b (p + (Utf8.decode s p).2) (q + (Utf8.decode t q).2) else cmpRunes ls (Utf8.decode s p).1 (Utf8.decode t q).1) else 1)
      else if q < t.size then -1 else 0

theorem width_pos (s : ByteArray) (pos : Nat) (h : pos < s.size) : 1 ≤ (Utf8.decode s pos).2 := by
  by_cases ha : (s[pos]'h).toNat < 128
  · rw [decode_ascii s pos h ha]
    exact Nat.le_refl _
  · exact (decode_high s pos h (by omega)).2

theorem decode_wf (s : ByteArray) (pos : Nat) : (Lit.int .i32 ((Utf8.decode s pos).1 : Nat)).wf = true := by
  have := decode_le s pos
  exact WalkArith.wf_i32 (by omega)

abbrev Tabs (w : World) : Prop := Lib.Utf8Tabs 0 1 w
theorem tabs_aft {w w' : World} (h : Tabs w) (a : Aft w w') : Tabs w' := ⟨fun c hc => a.cell (h.1 c hc), fun i hi => ⟨a.cell (h.2 i hi).1, a.cell (h.2 i hi).2⟩⟩

theorem ext_size (t : ByteArray) (q : Nat) : (t.extract q t.size).size = t.size - q := by rw [ByteArray.size_extract]; omega
theorem ext_ext (t : ByteArray) (q m : Nat) : (t.extract q t.size).extract m (t.extract q t.size).size = t.extract (q + m) t.size := by
  rw [ext_size]
  apply ByteArray.ext
  rw [ByteArray.data_extract, ByteArray.data_extract, ByteArray.data_extract, Array.extract_extract]
  have e : min (q + (t.size - q)) t.size = t.size := by omega
  rw [e]
theorem toList_ne {T : ByteArray} (h : 0 < T.size) : T.toList.isEmpty = false := by
  rw [ByteArray.toList_eq]
  cases e : T.data.toList with
  | nil =>
    exfalso
    have : T.data.toList.length = 0 := by rw [e]; rfl
    rw [Array.length_toList] at this
    exact absurd h (by show ¬ 0 < T.data.size; omega)
  | cons a l => rfl
theorem ext_empty (t : ByteArray) (q : Nat) (h : ¬ q < t.size) : t.extract q t.size = ByteArray.mk #[] := by
  apply ByteArray.ext
  apply Array.ext'
  have : (t.extract q t.size).size = 0 := by rw [ext_size]; omega
  have h2 : (t.extract q t.size).data.toList.length = 0 := by rw [Array.length_toList]; exact this
  rw [List.length_eq_zero_iff.1 h2]
theorem decodeGo_ext (t : ByteArray) (q : Nat) (h : q < t.size) : Lib.decodeGo (t.extract q t.size) = Utf8.decode t q := by
  unfold Lib.decodeGo
  rw [if_neg (by rw [ext_size]; omega), Lib.tail_decode]
  rfl
theorem decode_fits (t : ByteArray) (q : Nat) (h : q < t.size) : q + (Utf8.decode t q).2 ≤ t.size := by
  have := Lib.decodeGo_le_size (t.extract q t.size)
  rw [decodeGo_ext t q h, ext_size] at this
  omega

theorem iter_aft {w wr : World} (h : Aft w wr) {k : Nat} (hk : w.heap.size ≤ k) (s : ByteArray) (p : Nat) : Aft w (wr.iterAt k s p) := Lib.below_iterAt h hk s p

set_option maxRecDepth 100000 in
set_option maxHeartbeats 1600000 in
theorem collation1_any (s t : ByteArray) (Bc Bm k : Nat) (D : DataW Unit) (ls : List Lt) (w : World) (hc : w.cell? ⟨Bc, 0, none⟩ = some (.map (some Bm))) (hp : PosIn w Bm k D ls) (hT : Tabs w) :
    Calls Tryd.prog 52 #[.string s, .string t, .pointer (some ⟨Bc, 0, none⟩)] w (ValPost w (.int .i64 (cmpAt ls s t s.size 0 0))) := by
  go_enter Tryd.func52, Tryd.ntmps52
  go_wp2
  go_loopw [1] (fun v wr => ∃ (p q b : Nat), v = .string (t.extract q t.size) ∧ q ≤ t.size ∧ wr.heap[w.heap.size]? = some (.stringIter s p) ∧ cmpAt ls s t s.size 0 0 = cmpAt ls s t b p q ∧ s.size ≤ p + b ∧ Aft w wr) (fun _ wr => s.size - wr.iterPos w.heap.size)
  case atStart => exact ⟨0, 0, s.size, by simp, Nat.zero_le _, World.iter_heap _ _ _, rfl, by omega, (Aft.refl _).alloc _⟩
  case round =>
    obtain ⟨p, q, b, rfl, hq, hit, he, hb, haf⟩ := hrel
    have HE := Lib.hid he
    clear he
    by_cases hlt : p < s.size
    · have hnx := fun ty => Lib.run_next_any_at (P := Tryd.prog) wr w.heap.size s p ty hit hlt
      have hwp := width_pos s p hlt
      have hwf1 := decode_wf s p
      obtain ⟨b, rfl⟩ : ∃ b', b = b' + 1 := ⟨b - 1, by omega⟩
      have he1 := HE.out
      rw [cmpAt, if_pos hlt] at he1
      have af1 := iter_aft haf (Nat.le_refl _) s (p + (Utf8.decode s p).2)
      have it1 := Lib.iterAt_heap wr w.heap.size s p (p + (Utf8.decode s p).2) hit
      clear HE
      by_cases hqt : q < t.size
      · rw [if_pos hqt] at he1
        have hwq := width_pos t q hqt
        have hwf2 := decode_wf t q
        have hne : (t.extract q t.size).toList.isEmpty = false := toList_ne (by rw [ext_size]; omega)
        have hsz := ext_size t q
        have hfit := decode_fits t q hqt
        have hext := ext_ext t q (Utf8.decode t q).2
        have hdec := Lib.hid (decodeGo_ext t q hqt)
        generalize t.extract q t.size = T at *
        generalize Utf8.decode t q = dt at *
        generalize Utf8.decode s p = ds at *
        by_cases heq : ds.1 = dt.1
        · rw [if_pos heq] at he1
          have HE := Lib.hid he1
          have HX := Lib.hid hext
          have HI := Lib.hid it1
          have HQ := Lib.hid heq
          clear he1 hext it1 heq
          go_wp2_with fail
          have h1 := Tryd.utf8_DecodeRuneInString T _ (tabs_aft hT af1)
          rw [hdec.out, ← HQ.out] at h1
          refine h1.mono ?_
          rintro e w2 ⟨rfl, A2⟩
          clear h1
          go_wp2
          go_roundw
          case rel =>
            refine ⟨p + ds.2, q + dt.2, b, by rw [← HX.out, hsz], hfit, ?_, HE.out, by omega, af1.trans A2⟩
            exact (Below.block A2 _ (Array.getElem?_eq_some_iff.1 HI.out).1).trans HI.out
          case measure =>
            have e2 : w2.heap[w.heap.size]? = some (.stringIter s (p + ds.2)) := (Below.block A2 _ (Array.getElem?_eq_some_iff.1 HI.out).1).trans HI.out
            simp only [World.iterPos, e2, hit]
            omega
        · rw [if_neg heq] at he1
          have HE := Lib.hid he1
          clear he1 hext it1
          go_wp2_with fail
          have h1 := Tryd.utf8_DecodeRuneInString T _ (tabs_aft hT af1)
          rw [hdec.out] at h1
          refine h1.mono ?_
          rintro e w2 ⟨rfl, A2⟩
          clear h1
          have hc2 := (af1.trans A2).cell hc
          have hne2 : ¬ ((ds.1 : Int) = (dt.1 : Int)) := by omega
          go_wp2_with fail
          refine (cmpRunes_any Bm k D ls ds.1 dt.1 w2 (hp.aft (af1.trans A2)) hwf1 hwf2).mono ?_
          rintro e w3 ⟨rfl, rfl⟩
          go_wp2
          go_ret
          exact ⟨by rw [HE.out]; rfl, af1.trans A2⟩
      · rw [if_neg hqt] at he1
        have hemp := ext_empty t q hqt
        rw [hemp]
        have HE := Lib.hid he1
        clear he1
        go_wp2
        go_ret
        exact ⟨by rw [HE.out]; rfl, af1⟩
    · have hnx := fun ty => Lib.run_next_end_at (P := Tryd.prog) wr w.heap.size s p ty hit hlt
      have he1 : cmpAt ls s t s.size 0 0 = if q < t.size then -1 else 0 := by
        rw [HE.out]
        cases b with
        | zero => rfl
        | succ b => rw [cmpAt, if_neg hlt]
      have he2 : cmpAt ls s t s.size 0 0 = sgn 0 ((t.size - q : Nat) : Int) := by
        rw [he1]
        unfold sgn
        by_cases hqt : q < t.size
        · rw [if_pos hqt, if_pos (by omega)]
        · rw [if_neg hqt, if_neg (by omega), if_neg (by omega)]
      have H2 := Lib.hid he2
      have hsz := ext_size t q
      clear HE he1 he2
      generalize t.extract q t.size = T at *
      go_wp2_with fail
      refine (cmpI_any 0 _ _).mono ?_
      rintro e w3 ⟨rfl, rfl⟩
      go_wp2
      go_ret
      exact ⟨by rw [H2.out]; rfl, haf⟩

def ColPost (w : World) (ls : List Lt) (e : Ending) (w' : World) : Prop := ∃ Bc Bm k D, e = .returned (.func (.func 52) #[] #[.pointer (some ⟨Bc, 0, none⟩)]) ∧ w'.cell? ⟨Bc, 0, none⟩ = some (.map (some Bm)) ∧ PosIn w' Bm k D ls ∧ Aft w w'

theorem collation_any (A : Option Addr) (n c : Nat) (ls : List Lt) (w : World) (ha : Ll w A n c ls) :
    Calls Tryd.prog 45 #[.slice A n c] w (ColPost w ls) := by
  go_enter Tryd.func45, Tryd.ntmps45
  go_wp2_with fail
  refine (positions_any A n c ls w ha).mono ?_
  rintro e w1 ⟨Bm, k, D, rfl, hp, A1⟩
  go_wp2
  go_ret
  exact ⟨_, Bm, k, D, rfl, cell_one_new _ _ _ 0 _ rfl, hp.aft ((Aft.refl _).alloc _), A1.alloc _⟩

/-- Compare. -/
def cmpL (ls : List Lt) (s t : ByteArray) : Int := cmpAt ls s t s.size 0 0

theorem compare_any (A : Option Addr) (n c : Nat) (ls : List Lt) (s t : ByteArray) (w : World) (ha : Ll w A n c ls) (hT : Tabs w) :
    Calls Tryd.prog 27 #[.slice A n c, .string s, .string t] w (ValPost w (.int .i64 (cmpL ls s t))) := by
  go_enter Tryd.func27, Tryd.ntmps27
  go_wp2_with fail
  refine (collation_any A n c ls w ha).mono ?_
  rintro e w1 ⟨Bc, Bm, k, D, rfl, hc, hp, A1⟩
  go_wp2_with fail
  refine (collation1_any s t Bc Bm k D ls w1 hc hp (tabs_aft hT A1)).mono ?_
  rintro e w2 ⟨rfl, A2⟩
  go_wp2
  go_ret
  exact ⟨rfl, A1.trans A2⟩
end Go.Proofs.YtgnhkacndmdfgaaDoor
