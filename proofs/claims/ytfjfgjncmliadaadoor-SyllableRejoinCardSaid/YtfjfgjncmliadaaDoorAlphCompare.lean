/-
  Compare: the first two runes that differ decide, letters by their indices, before all other runes; a string comes before its continuations. Condition: the slice holds the letters; the tables of package unicode/utf8 lie as their texts say.
-/
import Derived.Test.YtfjfgjncmliadaaDoorAlphIndex
import Derived.Test.YtfjfgjncmliadaaDoorShelf
import Derived.Laws.EntriesVeiled
import Derived.Lib.OthersKept
import Derived.Lib.RuneCountTail
import Derived.Shelf.Unicode.DecodeLastEight
namespace Go.Proofs.YtfjfgjncmliadaaDoor
open Go.RowKit
open AlphPlain

/-- What cmp.Compare returns of two numbers. -/
def sgn (a b : Int) : Int := if a < b then -1 else if b < a then 1 else 0

/-- Two different runes: letters by their indices, then all other runes by code point. -/
def cmpRunes (ls : List Lt) (r o : Int) : Int :=
  if AlphPlain.has ls r then (if AlphPlain.has ls o then sgn (pos ls r : Nat) (pos ls o : Nat) else -1) else (if AlphPlain.has ls o then 1 else sgn r o)

/-- s from pos on against t from q on (b: at least as many rounds as there are bytes left). -/
def cmpAt (ls : List Lt) (s t : ByteArray) : Nat → Nat → Nat → Int
  | 0, _, q => if q < t.size then -1 else 0
  | b + 1, p, q => if p < s.size then (if q < t.size then (if (Utf8.decode s p).1 = (Utf8.decode t q).1 then cmpAt ls s t b (p + (Utf8.decode s p).2) (q + (Utf8.decode t q).2) else cmpRunes ls (Utf8.decode s p).1 (Utf8.decode t q).1) else 1)
      else if q < t.size then -1 else 0

theorem width_pos (s : ByteArray) (pos : Nat) (h : pos < s.size) : 1 ≤ (Utf8.decode s pos).2 := by
  by_cases ha : (s[pos]'h).toNat < 128
  · rw [decode_ascii s pos h ha]
    exact Nat.le_refl _
  · exact (decode_high s pos h (by omega)).2

theorem decode_wf (s : ByteArray) (pos : Nat) : (Lit.int .i32 ((Utf8.decode s pos).1 : Nat)).wf = true := by
  have := decode_le s pos
  exact WalkArith.wf_i32 (by omega)

abbrev Tabs (w : World) : Prop := Lib.Utf8Tabs 0 1 w
theorem tabs_aft {w w' : World} (h : Tabs w) (a : Aft w w') : Tabs w' := ⟨fun c hc => a.cell (h.1 c hc), fun i hi => ⟨a.cell (h.2 i hi).1, a.cell (h.2 i hi).2⟩⟩

theorem ext_size (t : ByteArray) (q : Nat) : (t.extract q t.size).size = t.size - q := by rw [ByteArray.size_extract]; omega
theorem ext_ext (t : ByteArray) (q m : Nat) : (t.extract q t.size).extract m (t.extract q t.size).size = t.extract (q + m) t.size := by
  rw [ext_size]
  apply ByteArray.ext
  rw [ByteArray.data_extract, ByteArray.data_extract, ByteArray.data_extract, Array.extract_extract]
  have e : min (q + (t.size - q)) t.size = t.size := by omega
  rw [e]
theorem toList_ne {T : ByteArray} (h : 0 < T.size) : T.toList.isEmpty = false := by
  rw [ByteArray.toList_eq]
  cases e : T.data.toList with
  | nil =>
    exfalso
    have : T.data.toList.length = 0 := by rw [e]; rfl
    rw [Array.length_toList] at this
    exact absurd h (by show ¬ 0 < T.data.size; omega)
  | cons a l => rfl
theorem ext_empty (t : ByteArray) (q : Nat) (h : ¬ q < t.size) : t.extract q t.size = ByteArray.mk #[] := by
  apply ByteArray.ext
  apply Array.ext'
  have : (t.extract q t.size).size = 0 := by rw [ext_size]; omega
  have h2 : (t.extract q t.size).data.toList.length = 0 := by rw [Array.length_toList]; exact this
  rw [List.length_eq_zero_iff.1 h2]
theorem decodeGo_ext (t : ByteArray) (q : Nat) (h : q < t.size) : Lib.decodeGo (t.extract q t.size) = Utf8.decode t q := by
  unfold Lib.decodeGo
  rw [if_neg (by rw [ext_size]; omega), Lib.tail_decode]
  rfl
theorem decode_fits (t : ByteArray) (q : Nat) (h : q < t.size) : q + (Utf8.decode t q).2 ≤ t.size := by
  have := Lib.decodeGo_le_size (t.extract q t.size)
  rw [decodeGo_ext t q h, ext_size] at this
  omega

theorem iter_aft {w wr : World} (h : Aft w wr) {k : Nat} (hk : w.heap.size ≤ k) (s : ByteArray) (p : Nat) : Aft w (wr.iterAt k s p) := Lib.below_iterAt h hk s p

/-- Compare. -/
def cmpL (ls : List Lt) (s t : ByteArray) : Int := cmpAt ls s t s.size 0 0

end Go.Proofs.YtfjfgjncmliadaaDoor
