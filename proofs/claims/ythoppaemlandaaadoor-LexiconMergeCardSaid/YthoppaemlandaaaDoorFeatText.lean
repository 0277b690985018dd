/-
  Text returns name=value for each feature, separated by blanks. Condition: the slice holds the features, and the whole text is shorter than Go's own limit.
-/
import Derived.Test.YthoppaemlandaaaDoorFeatBuilder
import Derived.Test.YthoppaemlandaaaDoorFeatValid
namespace Go.Proofs.YthoppaemlandaaaDoor
open Go.RowKit
open FeatPlain

/-- One feature's bytes. -/
def one (f : Ft) : List UInt8 := f.1.data.toList ++ [61] ++ f.2.data.toList
/-- The bytes of the text. -/
def text : List Ft → List UInt8
  | [] => []
  | [f] => one f
  | f :: g :: l => one f ++ [32] ++ text (g :: l)

/-- The text of the first k features, as the loop writes it. -/
def textTo : List Ft → List UInt8 → Bool → List UInt8
  | [], acc, _ => acc
  | f :: l, acc, first => textTo l (acc ++ (if first then [] else [32]) ++ one f) false

theorem textTo_text : ∀ (l : List Ft) (acc : List UInt8), textTo l acc false = acc ++ (if l = [] then [] else [32] ++ text l)
  | [], acc => by simp [textTo]
  | [f], acc => by simp [textTo, text]
  | f :: g :: l, acc => by
    rw [textTo, textTo_text (g :: l)]
    simp [text]

theorem textTo_all (l : List Ft) : textTo l [] true = text l := by
  cases l with
  | nil => rfl
  | cons f l =>
    rw [textTo, textTo_text]
    cases l <;> simp [text]

theorem textTo_length : ∀ (l : List Ft) (acc : List UInt8) (b : Bool), acc.length ≤ (textTo l acc b).length
  | [], acc, b => Nat.le_refl _
  | f :: l, acc, b => by
    rw [textTo]
    refine Nat.le_trans ?_ (textTo_length l _ false)
    simp only [List.length_append]; omega

def StrPost (w : World) (l : List UInt8) (e : Ending) (w' : World) : Prop := e = .returned (.string ⟨l.toArray⟩) ∧ Aft w w'

/-- A box of the call's own stays while a builder is written. -/
theorem box_kept {w w' : World} {b X : Nat} {cs : Array Value} (hk : Lib.OthersKept 5 (some b) w w') (hX : w.heap[X]? = some (.cells cs 57 (0, 0))) (hne : X ≠ b) : w'.heap[X]? = some (.cells cs 57 (0, 0)) :=
  hk X _ hX (by simp [hne]) (by intro c fz e; injection e with _ e2; exact absurd e2 (by decide))

theorem step_length {xs : List Ft} {k : Nat} {acc : List UInt8} {b : Bool} {f : Ft} (hz : (text xs).length ≤ 140737488355328) (h : textTo xs [] true = textTo (xs.drop k) acc b) (hf : xs[k]? = some f) :
    acc.length + (if b then 0 else 1) + f.1.size + 1 + f.2.size ≤ 140737488355328 := by
  rw [← textTo_all, h, drop_of_get hf, textTo] at hz
  have := Nat.le_trans (textTo_length _ _ _) hz
  cases b <;> simp [one] at this ⊢ <;> omega

theorem step_text {xs : List Ft} {k : Nat} {acc : List UInt8} {b : Bool} {f : Ft} (h : textTo xs [] true = textTo (xs.drop k) acc b) (hf : xs[k]? = some f) :
    textTo xs [] true = textTo (xs.drop (k + 1)) (acc ++ (if b then [] else [32]) ++ one f) (decide (k + 1 = 0)) := by
  rw [h, drop_of_get hf, textTo]; simp

theorem cells_first (acc : List UInt8) (f : Ft) : ((Lib.byteCells acc ++ Lib.strCells f.1) ++ [.int .u8 61]) ++ Lib.strCells f.2 = Lib.byteCells (acc ++ [] ++ one f) := by
  simp [Lib.strCells_eq, one, Lib.byteCells]
theorem cells_later (acc : List UInt8) (f : Ft) : (((Lib.byteCells acc ++ [.int .u8 32]) ++ Lib.strCells f.1) ++ [.int .u8 61]) ++ Lib.strCells f.2 = Lib.byteCells (acc ++ [32] ++ one f) := by
  simp [Lib.strCells_eq, one, Lib.byteCells]

set_option maxRecDepth 100000 in
set_option maxHeartbeats 1600000 in
theorem text_any (A : Option Addr) (n c : Nat) (xs : List Ft) (w : World) (ha : Sl w A n c xs) (hz : (text xs).length ≤ 140737488355328) :
    Calls Tryd.prog 60 #[.slice A n c] w (StrPost w (text xs)) := by
  have hn := ha.max
  have hnc := ha.le
  have hlen := Lib.hid ha.len
  have HZ := Lib.hid hz
  clear hz
  go_enter Tryd.func60, Tryd.ntmps60
  go_wp2
  have hB0 := Lib.IsBuilderF.of (Lib.fresh_isBuilder 102 5 w)
  go_loopw [8] (fun i wr => ∃ k acc, k ≤ n ∧ i = .int .i64 (k : Nat) ∧ textTo xs [] true = textTo (xs.drop k) acc (decide (k = 0)) ∧ Bld w.heap.size w.heap.size (Lib.byteCells acc) wr ∧ Aft w wr) (fun i _ => n - (intOf i).toNat)
  case atStart => exact ⟨0, [], Nat.zero_le _, rfl, by simp, hB0, (Aft.refl _).alloc _⟩
  case round =>
    obtain ⟨k, acc, hk, rfl, htx, hbl, haf⟩ := hrel
    have HT := Lib.hid htx
    clear htx hB0
    by_cases hlt : k < n
    · obtain ⟨b, off, f, rfl, hf, h1, h2⟩ := ha.at_ hlt
      have c1 := haf.cell h1
      have c2 := haf.cell h2
      have HF := Lib.hid hf
      clear hf h1 h2
      have hbl1 := fun o => hbl.alloc o
      have hbox : (wr.alloc (.cells #[.string f.1, .string f.2] 57)).heap[wr.heap.size]? = some (.cells #[.string f.1, .string f.2] 57 (0, 0)) := heap_alloc_new wr _
      have hsz := haf.size
      have hwb : w.heap.size < wr.heap.size := by rcases hbl with h | h <;> exact h.lt
      have hll := step_length HZ.out HT.out HF.out
      have hbc : (Lib.byteCells acc).length = acc.length := Lib.byteCells_length _
      have HX := Lib.hid hbox
      have HC := Lib.hid hbc
      clear hbox hbc
      cases k with
      | zero =>
        simp only [Nat.zero_mul, Nat.add_zero] at c1 c2
        simp only [decide_true, if_true] at hll
        go_wp2_with fail
        refine (writeString_any w.heap.size w.heap.size (Lib.byteCells acc) f.1 _ (hbl1 _) (by rw [HC.out]; omega) (by simp; omega)).mono ?_
        rintro e w1 ⟨rfl, b1, l1, k1⟩
        have x1 := box_kept k1 HX.out (by omega)
        have X1 := Lib.hid x1
        clear x1
        have e1 : w1.cell? ⟨wr.heap.size, 1, none⟩ = some (.string f.2) := by rw [Lib.cell_of_heap X1.out]; rfl
        have s1 := l1.size
        simp at s1
        go_wp2_with fail
        refine (writeByte_any w.heap.size w.heap.size _ 61 _ (.inr b1) (by rw [List.length_append, HC.out, Lib.strCells_length]; omega) (by omega)).mono ?_
        rintro e w2 ⟨rfl, b2, l2, k2⟩
        have X2 := Lib.hid (box_kept k2 X1.out (by omega))
        have e2 : w2.cell? ⟨wr.heap.size, 1, none⟩ = some (.string f.2) := by rw [Lib.cell_of_heap X2.out]; rfl
        have s2 := l2.size
        go_wp2_with fail
        refine (writeString_any w.heap.size w.heap.size _ f.2 _ (.inr b2) (by rw [List.length_append, List.length_append, HC.out, Lib.strCells_length]; simp; omega) (by omega)).mono ?_
        rintro e w3 ⟨rfl, b3, l3, k3⟩
        go_wp2
        go_roundw
        case rel => exact ⟨0 + 1, _, by omega, rfl, step_text HT.out HF.out, .inr (by rw [cells_first] at b3; exact b3), Below.trans (Below.trans (Below.trans (haf.alloc _) l1) l2) l3⟩
        case measure => simp [intOf]; omega
      | succ j =>
        have hj0 : decide (j + 1 = 0) = false := by simp
        rw [hj0] at hll
        simp only [Bool.false_eq_true, if_false] at hll
        go_wp2_with fail
        refine (writeByte_any w.heap.size w.heap.size (Lib.byteCells acc) 32 _ (hbl1 _) (by rw [HC.out]; omega) (by simp; omega)).mono ?_
        rintro e w0 ⟨rfl, b0, l0, k0⟩
        have X0 := Lib.hid (box_kept k0 HX.out (by omega))
        have e0 : w0.cell? ⟨wr.heap.size, 0, none⟩ = some (.string f.1) := by rw [Lib.cell_of_heap X0.out]; rfl
        have s0 := l0.size
        simp at s0
        go_wp2_with fail
        refine (writeString_any w.heap.size w.heap.size _ f.1 _ (.inr b0) (by rw [List.length_append, HC.out]; simp; omega) (by omega)).mono ?_
        rintro e w1 ⟨rfl, b1, l1, k1⟩
        have X1 := Lib.hid (box_kept k1 X0.out (by omega))
        have e1 : w1.cell? ⟨wr.heap.size, 1, none⟩ = some (.string f.2) := by rw [Lib.cell_of_heap X1.out]; rfl
        have s1 := l1.size
        go_wp2_with fail
        refine (writeByte_any w.heap.size w.heap.size _ 61 _ (.inr b1) (by rw [List.length_append, List.length_append, HC.out, Lib.strCells_length]; simp; omega) (by omega)).mono ?_
        rintro e w2 ⟨rfl, b2, l2, k2⟩
        have X2 := Lib.hid (box_kept k2 X1.out (by omega))
        have e2 : w2.cell? ⟨wr.heap.size, 1, none⟩ = some (.string f.2) := by rw [Lib.cell_of_heap X2.out]; rfl
        have s2 := l2.size
        go_wp2_with fail
        refine (writeString_any w.heap.size w.heap.size _ f.2 _ (.inr b2) (by rw [List.length_append, List.length_append, List.length_append, HC.out, Lib.strCells_length]; simp; omega) (by omega)).mono ?_
        rintro e w3 ⟨rfl, b3, l3, k3⟩
        go_wp2
        go_roundw
        case rel => exact ⟨j + 1 + 1, _, by omega, by go_num, step_text HT.out HF.out, .inr (by rw [cells_later] at b3; exact b3), Below.trans (Below.trans (Below.trans (Below.trans (haf.alloc _) l0) l1) l2) l3⟩
        case measure => simp [intOf]; omega
    · obtain rfl : k = n := by omega
      go_wp2_with fail
      refine (Tryd.Builder_String_any_k w.heap.size w.heap.size acc _ hbl haf.size).mono ?_
      rintro e w1 ⟨rfl, _, l1, _⟩
      go_wp2
      go_ret
      refine ⟨?_, Below.trans haf l1⟩
      rw [← textTo_all, HT.out, List.drop_of_length_le (by rw [hlen.out]; exact Nat.le_refl _)]
      rfl
end Go.Proofs.YthoppaemlandaaaDoor
