/-
  The reference's Compare: it compares the lists of runes; the program's does the same. few of a list of strings. Condition: the slices hold the letters and the strings; no string is longer than 2^46 bytes.
-/
import Derived.Test.YtfjfgjncmliadaaDoorAlphCompare
import Derived.Test.YtfjfgjncmliadaaDoorAlphSelect
import Derived.Laws.IdiomStrings
namespace Go.Proofs.YtfjfgjncmliadaaDoor
open Go.RowKit
open AlphPlain

set_option maxRecDepth 100000 in
set_option maxHeartbeats 800000 in
/-- Index of the reference changes nothing. -/
theorem refIndexP_any (A : Option Addr) (n c : Nat) (ls : List Lt) (r : Int) (w : World) (ha : Ll w A n c ls) :
    Calls Tryd.prog 53 #[.slice A n c, .int .i32 r] w (fun e w' => e = .returned (.int .i64 (idxI ls r)) ∧ w = w') := by
  have hn := ha.max
  have hnc := ha.le
  have hlen := Lib.hid ha.len
  go_enter Tryd.func53, Tryd.ntmps53
  go_wp2
  go_loop [5] (fun i => ∃ k, k ≤ n ∧ i = .int .i64 (k : Nat) ∧ (∀ j m, j < k → ls[j]? = some m → m.1 ≠ r)) (fun i => n - (intOf i).toNat)
  case atStart => exact ⟨0, Nat.zero_le _, rfl, fun j m h => by omega⟩
  case round =>
    obtain ⟨k, hk, rfl, he⟩ := hrel
    have HE := Lib.hid he
    clear he
    by_cases hlt : k < n
    · obtain ⟨b, off, l, rfl, hf, c1, h2⟩ := ha.at_ hlt
      have HF := Lib.hid hf
      clear hf h2
      by_cases hq : l.1 = r
      · have HI := Lib.hid (idxI_some (idx_drop HE.out HF.out hq))
        go_wp2
        go_ret
        exact ⟨by rw [HI.out]; rfl, rfl⟩
      · go_wp2
        go_round
        case rel =>
          refine ⟨k + 1, by omega, by go_num, fun j m hj hm => ?_⟩
          by_cases e : j = k
          · subst e; rw [HF.out] at hm; cases hm; exact hq
          · exact HE.out j m (by omega) hm
        case measure => simp [intOf]; omega
    · obtain rfl : k = n := by omega
      have HI := Lib.hid (idxI_none (idx_absent (by rw [hlen.out]; exact HE.out)))
      go_wp2
      go_ret
      exact ⟨by rw [HI.out]; rfl, rfl⟩

def beforeB (ls : List Lt) (r o : Int) : Bool :=
  if AlphPlain.has ls r then (if AlphPlain.has ls o then decide (pos ls r < pos ls o) else true) else (if AlphPlain.has ls o then false else decide (r < o))

theorem idxI_has {ls : List Lt} {r : Int} (h : AlphPlain.has ls r = true) : idxI ls r = (pos ls r : Nat) := by simp [idxI, h]
theorem idxI_not {ls : List Lt} {r : Int} (h : AlphPlain.has ls r = false) : idxI ls r = -1 := by simp [idxI, h]

theorem cmpRunes_before {ls : List Lt} {r o : Int} (h : r ≠ o) : cmpRunes ls r o = if beforeB ls r o then -1 else 1 := by
  unfold cmpRunes beforeB sgn
  cases hr : AlphPlain.has ls r
  · cases ho : AlphPlain.has ls o
    · by_cases h1 : r < o
      · simp [h1]
      · have h2 : o < r := by omega
        simp [h1, h2]
    · simp
  · cases ho : AlphPlain.has ls o
    · simp
    · have hne : pos ls r ≠ pos ls o := by
        intro e
        obtain ⟨l, hl, e1⟩ := pos_get hr
        obtain ⟨m, hm, e2⟩ := pos_get ho
        rw [e, hm] at hl
        cases hl
        exact h (e1.symm.trans e2)
      by_cases h1 : pos ls r < pos ls o
      · have h1' : ((pos ls r : Nat) : Int) < (pos ls o : Nat) := by omega
        simp [h1]
      · have h2' : pos ls o < pos ls r := by omega
        simp [h1, h2']

/-- The runes of s from p on (b: at least as many rounds as there are bytes left). -/
def runesL (s : ByteArray) : Nat → Nat → List Int
  | 0, _ => []
  | b + 1, p => if p < s.size then ((Utf8.decode s p).1 : Int) :: runesL s b (p + (Utf8.decode s p).2) else []
def runesOf (s : ByteArray) : List Int := runesL s s.size 0

theorem runesFrom_eq (s : ByteArray) : ∀ (b p : Nat) (acc : Array Value), Conv.runesFrom s b p acc = acc ++ (runV (runesL s b p)).toArray
  | 0, p, acc => by simp [Conv.runesFrom, runesL, runV]
  | b + 1, p, acc => by
    unfold Conv.runesFrom runesL
    split
    · show Conv.runesFrom s b (p + (Utf8.decode s p).2) (acc.push (.int .i32 (Int.ofNat (Utf8.decode s p).1))) = _
      rw [runesFrom_eq s b]
      simp [runV]
    · simp [runV]

def cmpLs (ls : List Lt) : List Int → List Int → Int
  | [], [] => 0
  | [], _ :: _ => -1
  | _ :: _, [] => 1
  | r :: x, o :: y => if r = o then cmpLs ls x y else cmpRunes ls r o

theorem runesL_end {s : ByteArray} {p : Nat} (h : ¬ p < s.size) : ∀ b, runesL s b p = []
  | 0 => rfl
  | b + 1 => by rw [runesL, if_neg h]

theorem cmpAt_runes (ls : List Lt) (s t : ByteArray) : ∀ (b c p q : Nat), s.size ≤ p + b → t.size ≤ q + c → cmpAt ls s t b p q = cmpLs ls (runesL s b p) (runesL t c q)
  | 0, c, p, q, hb, hc => by
    rw [cmpAt, runesL]
    by_cases hq : q < t.size
    · obtain ⟨c, rfl⟩ : ∃ c', c = c' + 1 := ⟨c - 1, by omega⟩
      rw [if_pos hq, runesL, if_pos hq]; rfl
    · rw [if_neg hq, runesL_end hq]; rfl
  | b + 1, c, p, q, hb, hc => by
    rw [cmpAt, runesL]
    by_cases hp : p < s.size
    · rw [if_pos hp, if_pos hp]
      by_cases hq : q < t.size
      · obtain ⟨c, rfl⟩ : ∃ c', c = c' + 1 := ⟨c - 1, by omega⟩
        have w1 := width_pos s p hp
        have w2 := width_pos t q hq
        rw [if_pos hq, runesL, if_pos hq, cmpLs]
        by_cases he : (Utf8.decode s p).1 = (Utf8.decode t q).1
        · rw [if_pos he, if_pos (by omega), cmpAt_runes ls s t b c _ _ (by omega) (by omega)]
        · rw [if_neg he, if_neg (by omega)]
      · rw [if_neg hq, runesL_end hq]; rfl
    · rw [if_neg hp, if_neg hp]
      by_cases hq : q < t.size
      · obtain ⟨c, rfl⟩ : ∃ c', c = c' + 1 := ⟨c - 1, by omega⟩
        rw [if_pos hq, runesL, if_pos hq]; rfl
      · rw [if_neg hq, runesL_end hq]; rfl

theorem cmpL_runes (ls : List Lt) (s t : ByteArray) : cmpL ls s t = cmpLs ls (runesOf s) (runesOf t) := cmpAt_runes ls s t _ _ 0 0 (by omega) (by omega)

/-- The world with the runes of s laid anew. -/
def convC (s : ByteArray) (w : World) : Nat := grownCap w (Conv.runesFrom s s.size 0 #[]).size 0 21
def convW (s : ByteArray) (w : World) : World := w.drew.alloc (.cells (Conv.runesFrom s s.size 0 #[] ++ Array.replicate (convC s w - (Conv.runesFrom s s.size 0 #[]).size) (.int .i32 0)) 21)

theorem runes_size (s : ByteArray) : (Conv.runesFrom s s.size 0 #[]).size = (runesOf s).length := by rw [runesFrom_eq]; simp [runV, runesOf]
theorem conv_run (s : ByteArray) (hs : s.size ≤ 70368744177664) (w : World) : (convert 9 40 (.string s)).run Tryd.prog w = .ok (.slice (some ⟨w.heap.size, 0, none⟩) (runesOf s).length (convC s w)) (convW s w) := by
  rw [run_runes_of_string w _ _ 21 s Tryd.underlying9 Tryd.underlying40 Tryd.underlying21 (by have := size_runesFrom s s.size 0 #[]; simp at this; omega), runes_size]
  unfold convW convC
  rw [runes_size]
theorem conv_aft (s : ByteArray) (w : World) : Aft w (convW s w) := Aft.alloc (Below.drew (Aft.refl w)) _
theorem cell_new (w : World) (cs : Array Value) (t : TypeId) (i : Nat) : (w.alloc (.cells cs t)).cell? ⟨w.heap.size, i, none⟩ = cs[i]? := by
  simp
theorem conv_rr (s : ByteArray) (w : World) : Rr (convW s w) (some ⟨w.heap.size, 0, none⟩) (runesOf s).length (convC s w) (runesOf s) := by
  refine ⟨rfl, ?_, fun e => (by cases e), fun i r hi => ⟨_, _, rfl, ?_⟩⟩
  · have := grownCap_ge w (Conv.runesFrom s s.size 0 #[]).size 0 21
    unfold convC
    rw [runes_size] at this ⊢
    exact this
  · have hlt := (List.getElem?_eq_some_iff.1 hi).1
    show (w.drew.alloc _).cell? ⟨w.drew.heap.size, 0 + i, none⟩ = _
    rw [Nat.zero_add, cell_new, runesFrom_eq, Array.getElem?_append_left (by simp [runV]; exact hlt)]
    simp only [runV, Array.empty_append, List.getElem?_toArray, List.getElem?_map]
    rw [show runesL s s.size 0 = runesOf s from rfl, hi]; rfl

theorem Rr.at_ {w : World} {A : Option Addr} {n c k : Nat} {rs : List Int} (h : Rr w A n c rs) (hk : k < n) :
    ∃ b off r, A = some ⟨b, off, none⟩ ∧ rs[k]? = some r ∧ w.cell? ⟨b, off + k, none⟩ = some (.int .i32 r) := by
  have hl : k < rs.length := by have := h.len; omega
  have hi : rs[k]? = some rs[k] := List.getElem?_eq_getElem hl
  obtain ⟨b, off, hA, h1⟩ := h.cells k _ hi
  exact ⟨b, off, _, hA, hi, h1⟩

/-- Are there few letters and few short strings? -/
def fewB (n : Nat) (ss : List ByteArray) : Bool := ss.all (fun s => decide (s.size ≤ 200)) && decide (n ≤ 70) && decide (ss.length ≤ 40)

end Go.Proofs.YtfjfgjncmliadaaDoor
