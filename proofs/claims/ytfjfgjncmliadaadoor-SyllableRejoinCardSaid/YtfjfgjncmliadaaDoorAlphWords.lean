/-
  Words: all strings of n letters. lengthen gives each word with each letter behind it. Condition: the slices hold the words and the letters; there are at most 256 new words; no word is longer than 1000 bytes.
-/
import Derived.Test.YtfjfgjncmliadaaDoorAlphIndex
import Derived.Deep.DeepMust
namespace Go.Proofs.YtfjfgjncmliadaaDoor
open Go.RowKit
open AlphPlain

/-- THE SLICE '.slice A n c' HOLDS THE STRINGS ss. -/
structure Ss (w : World) (A : Option Addr) (n c : Nat) (ss : List ByteArray) : Prop where
  len : ss.length = n
  le : n ≤ c
  max : n * 16 ≤ 281474976710656
  cmax : c ≤ 9223372036854775807
  nl : A = none → c = 0
  cells : ∀ i s, ss[i]? = some s → ∃ b off, A = some ⟨b, off, none⟩ ∧ w.cell? ⟨b, off + i, none⟩ = some (.string s)

theorem Ss.aft {w w' : World} {A : Option Addr} {n c : Nat} {ss : List ByteArray} (h : Ss w A n c ss) (k : Aft w w') : Ss w' A n c ss :=
  ⟨h.len, h.le, h.max, h.cmax, h.nl, fun i f hi => by
    obtain ⟨b, off, hA, h1⟩ := h.cells i f hi
    exact ⟨b, off, hA, k.cell h1⟩⟩

theorem Ss.at_ {w : World} {A : Option Addr} {n c k : Nat} {ss : List ByteArray} (h : Ss w A n c ss) (hk : k < n) :
    ∃ b off s, A = some ⟨b, off, none⟩ ∧ ss[k]? = some s ∧ w.cell? ⟨b, off + k, none⟩ = some (.string s) := by
  have hl : k < ss.length := by have := h.len; omega
  have hi : ss[k]? = some ss[k] := List.getElem?_eq_getElem hl
  obtain ⟨b, off, hA, h1⟩ := h.cells k _ hi
  exact ⟨b, off, _, hA, hi, h1⟩

theorem Ss.nil {w : World} {A : Option Addr} {c : Nat} (hm : c ≤ 9223372036854775807) (hn : A = none → c = 0) : Ss w A 0 c [] := ⟨rfl, Nat.zero_le _, by omega, hm, hn, fun i f h => by simp at h⟩

def SsPost (w : World) (l : List ByteArray) (e : Ending) (w' : World) : Prop := (∃ A n c, e = .returned (.slice A n c) ∧ Ss w' A n c l) ∧ Aft w w'

def strV (l : List ByteArray) : List Value := l.map Value.string
theorem strV_append (a b : List ByteArray) : strV (a ++ b) = strV a ++ strV b := List.map_append
theorem strV_one (l : List ByteArray) : ∀ u ∈ strV l, u.oneCell' = true := by
  intro u hu
  obtain ⟨s, _, rfl⟩ := List.mem_map.1 hu
  rfl

theorem Ss.of_own {w : World} {base g n cap : Nat} {ss : List ByteArray} (h : w.ownsRow base 9 1 (.slice (some ⟨g, 0, none⟩) n cap) n (strV ss)) (hl : ss.length = n) (hle : n ≤ cap) (hm : n * 16 ≤ 281474976710656) :
    Ss w (some ⟨g, 0, none⟩) n cap ss :=
  ⟨hl, hle, hm, by rcases h.2 with ⟨e, _⟩ | ⟨g', cap', cur, e, _, _, _, hc, _⟩; (· cases e); (· cases e; unfold maxLen at hc; omega), fun e => (by cases e), fun i f hi => by
    have hlt : i < n := by have := (List.getElem?_eq_some_iff.1 hi).1; omega
    refine ⟨g, 0, rfl, ?_⟩
    rw [Nat.zero_add, h.cellAt _ (by omega)]
    simp [strV, hi]⟩

theorem Tryd.infoS : (Tryd.prog.info? 9).map (fun i => (i.zero, i.size, i.bytes)) = some (some (.string ByteArray.empty), 1, 16) := by kernel_rfl

theorem one_str (w : World) (s : ByteArray) : ∀ j u, (strV [s])[j]? = some u → (w.alloc (.cells #[.string s] 9)).cell? ((⟨w.heap.size, 0, none⟩ : Addr).add j) = some u := by
  intro j u hj
  match j, hj with
  | 0, hj => simp [strV] at hj; subst hj; simp [Addr.add]
  | j + 1, hj => simp [strV] at hj

theorem one_str2 (w : World) (s : ByteArray) (H : Nat) (h : w.heap.size = H) : ∀ j u, (strV [s])[j]? = some u → (w.alloc (.cells #[.string s] 9)).cell? ((⟨H, 0, none⟩ : Addr).add j) = some u := by
  subst h
  exact one_str w s

/-- The word with each of the letters behind it. -/
def spread (s : ByteArray) (ls : List Lt) : List ByteArray := ls.map fun l => s ++ Utf8.encode l.1
def longer (ws : List ByteArray) (ls : List Lt) : List ByteArray := ws.flatMap fun s => spread s ls

theorem longer_snoc (ws : List ByteArray) (s : ByteArray) (ls : List Lt) : longer (ws ++ [s]) ls = longer ws ls ++ spread s ls := by simp [longer]
theorem spread_snoc (s : ByteArray) (ls : List Lt) (l : Lt) : spread s (ls ++ [l]) = spread s ls ++ [s ++ Utf8.encode l.1] := by simp [spread]
theorem longer_length : ∀ (ws : List ByteArray) (ls : List Lt), (longer ws ls).length = ws.length * ls.length
  | [], ls => by simp [longer]
  | s :: ws, ls => by
    have := longer_length ws ls
    simp only [longer, List.flatMap_cons, List.length_append, spread, List.length_map, List.length_cons] at this ⊢
    rw [this, Nat.succ_mul]; omega

theorem encode_small (r : Int) : (Utf8.encode r).size ≤ 4 := by
  unfold Utf8.encode
  dsimp only
  generalize (if Utf8.valid r = true then r.toNat else Utf8.runeError) = c
  by_cases h1 : c < 128
  · rw [if_pos h1]; show 1 ≤ 4; omega
  · rw [if_neg h1]
    by_cases h2 : c < 2048
    · rw [if_pos h2]; show 2 ≤ 4; omega
    · rw [if_neg h2]
      by_cases h3 : c < 65536
      · rw [if_pos h3]; show 3 ≤ 4; omega
      · rw [if_neg h3]; show 4 ≤ 4; omega

theorem room {i j k n : Nat} (hi : i < k) (hj : j < n) : i * n + j + 1 ≤ k * n := by
  have : (i + 1) * n ≤ k * n := Nat.mul_le_mul_right n hi
  rw [Nat.succ_mul] at this
  omega

/-- The words of n letters; none if there would be more than 256. -/
def wordsN (ls : List Lt) : Nat → Option (List ByteArray)
  | 0 => some [⟨#[]⟩]
  | i + 1 => match wordsN ls i with
    | none => none
    | some ws => if ws.length * ls.length > 256 then none else some (longer ws ls)

theorem wordsN_none {ls : List Lt} {i : Nat} (h : wordsN ls i = none) : ∀ k, wordsN ls (i + k) = none
  | 0 => h
  | k + 1 => by show wordsN ls (i + k + 1) = none; rw [wordsN, wordsN_none h k]

def words (ls : List Lt) (n : Int) : List ByteArray := if validB ls && decide (0 ≤ n) && decide (n ≤ 40) then (wordsN ls n.toNat).getD [] else []

theorem wordsN_size {ls : List Lt} : ∀ {i : Nat} {ws : List ByteArray}, wordsN ls i = some ws → ws.length ≤ 256 ∧ ∀ s ∈ ws, s.size ≤ 4 * i
  | 0, ws, h => by cases h; exact ⟨by decide, fun s hs => by simp at hs; subst hs; exact Nat.le_refl _⟩
  | i + 1, ws, h => by
    rw [wordsN] at h
    cases e : wordsN ls i with
    | none => rw [e] at h; cases h
    | some vs =>
      rw [e] at h
      simp only at h
      split at h
      · cases h
      · cases h
        refine ⟨by rw [longer_length]; omega, fun s hs => ?_⟩
        obtain ⟨v, hv, hs⟩ := List.mem_flatMap.1 hs
        obtain ⟨l, _, rfl⟩ := List.mem_map.1 hs
        have h1 := (wordsN_size e).2 v hv
        have h2 := encode_small l.1
        rw [ByteArray.size_append]
        omega

end Go.Proofs.YtfjfgjncmliadaaDoor
