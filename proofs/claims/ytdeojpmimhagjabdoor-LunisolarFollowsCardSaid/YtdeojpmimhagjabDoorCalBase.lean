/-
  What the walks over packages of dates share: worlds that only grew ('Aft'), a date in a block of its own ('BoxD'), '==' of two dates. No conditions of its own.
-/
import Derived.Test.YtdeojpmimhagjabDoorProg
import Derived.WalkKit
import Derived.WalkLawsBesides
import Derived.Laws.StructEq
import Derived.Laws.Tables
import Derived.Deep.LoopGhost
import Derived.Deep.QuietTactic
import Derived.BigQuiet
import Derived.Deep.Draws
import Derived.Lib.Hide
import Derived.KernelRfl
import Derived.Laws.EntriesVeiled
import Derived.RangeFuncRecord
namespace Go.Proofs.YtdeojpmimhagjabDoor
open Go.RowKit

/-- w' is w with new memory; nothing that was there has changed. -/
def Aft (w w' : World) : Prop := Below w.heap.size w w'
theorem Aft.refl (w : World) : Aft w w := Below.refl _ _
theorem Aft.trans {a b c : World} (h : Aft a b) (k : Aft b c) : Aft a c := Below.trans h (Below.mono k (Below.size h))
theorem Aft.alloc {a w : World} (h : Aft a w) (o : Obj) : Aft a (w.alloc o) := Below.alloc h (Below.size h) o
theorem Aft.drewN {a w : World} (h : Aft a w) (n : Nat) : Aft a (w.drewN n) := ⟨h.os, h.tape, h.output, h.size, h.block⟩
theorem Aft.setCell {a w : World} (h : Aft a w) {p : Addr} (hp : a.heap.size ≤ p.block) (u : Value) : Aft a (w.setCell p u) := Below.setCell h hp u
theorem Aft.cell {w w' : World} (h : Aft w w') {p : Addr} {v : Value} (hc : w.cell? p = some v) : w'.cell? p = some v := (Below.cell h (World.block_lt_of_cell? w p hc)).trans hc
theorem Aft.size {w w' : World} (h : Aft w w') : w.heap.size ≤ w'.heap.size := Below.size h
theorem Aft.grown {a w w' : World} {row : Option Nat} (h : Aft a w) (hg : w.grownBy w' row) (hr : ∀ k, row = some k → a.heap.size ≤ k) : Aft a w' := Below.grown h hg (Below.size h) hr

def BoolPost (w : World) (r : Bool) (e : Ending) (w' : World) : Prop := e = .returned (.bool r) ∧ Aft w w'
def ValPost (w : World) (r : Value) (e : Ending) (w' : World) : Prop := e = .returned r ∧ Aft w w'
def SamePost (w : World) (r : Value) (e : Ending) (w' : World) : Prop := e = .returned r ∧ w = w'
theorem SamePost.aft {w : World} {r : Value} {e : Ending} {w' : World} (h : SamePost w r e w') : ValPost w r e w' := ⟨h.1, by rw [h.2]; exact Aft.refl _⟩
theorem ret_int {k : IntKind} {a b : Int} (h : a = b) : Ending.returned (.int k a) = .returned (.int k b) := by rw [h]
theorem wf_range {z : Int} (h : (Lit.int .i64 z).wf = true) : -9223372036854775808 ≤ z ∧ z ≤ 9223372036854775807 := by
  simp [Lit.wf, IntKind.min, IntKind.max, IntKind.bits, IntKind.signed] at h
  omega

/-- Block p holds the date, all of it. -/
def BoxD (w : World) (p : Nat) (c y m d : Int) (l : Bool) : Prop := w.heap[p]? = some (.cells #[.int .i64 c, .int .i64 y, .int .i64 m, .int .i64 d, .bool l] 34 (0, 0))
theorem BoxD.aft {w w' : World} {p : Nat} {c y m d : Int} {l : Bool} (h : BoxD w p c y m d l) (k : Aft w w') : BoxD w' p c y m d l := (Below.block k p (Array.getElem?_eq_some_iff.1 h).1).trans h
theorem BoxD.new (w : World) (c y m d : Int) (l : Bool) : BoxD (w.alloc (.cells #[.int .i64 c, .int .i64 y, .int .i64 m, .int .i64 d, .bool l] 34)) w.heap.size c y m d l := World.alloc_heap_new _ _
theorem BoxD.new' (w : World) (c y m d : Int) (l : Bool) {H : Nat} (h : w.heap.size = H) : BoxD (w.alloc (.cells #[.int .i64 c, .int .i64 y, .int .i64 m, .int .i64 d, .bool l] 34)) H c y m d l := by subst h; exact BoxD.new _ _ _ _ _ _
theorem BoxD.five {w : World} {p : Nat} {c y m d : Int} {l : Bool} (h : BoxD w p c y m d l) :
    w.cell? ⟨p, 0, none⟩ = some (.int .i64 c) ∧ w.cell? ⟨p, 1, none⟩ = some (.int .i64 y) ∧ w.cell? ⟨p, 2, none⟩ = some (.int .i64 m) ∧ w.cell? ⟨p, 3, none⟩ = some (.int .i64 d) ∧ w.cell? ⟨p, 4, none⟩ = some (.bool l) := by
  have h' : w.heap[p]? = _ := h
  refine ⟨?_, ?_, ?_, ?_, ?_⟩ <;> simp [World.cell?, h']
theorem BoxD.frozen {w : World} {p : Nat} {c y m d : Int} {l : Bool} (h : BoxD w p c y m d l) (j : Nat) : w.frozen? ⟨p, j, none⟩ = false := by
  have h' : w.heap[p]? = _ := h
  simp [World.frozen?, h']

theorem Aft.set5 {a w : World} (h : Aft a w) {p : Nat} (hp : a.heap.size ≤ p) (v0 v1 v2 v3 v4 : Value) : Aft a (((((w.setCell ⟨p, 0, none⟩ v0).setCell ⟨p, 1, none⟩ v1).setCell ⟨p, 2, none⟩ v2).setCell ⟨p, 3, none⟩ v3).setCell ⟨p, 4, none⟩ v4) :=
  ((((h.setCell (p := ⟨p, 0, none⟩) hp v0).setCell (p := ⟨p, 1, none⟩) hp v1).setCell (p := ⟨p, 2, none⟩) hp v2).setCell (p := ⟨p, 3, none⟩) hp v3).setCell (p := ⟨p, 4, none⟩) hp v4
theorem BoxD.set5 {w : World} {p : Nat} {c y m d : Int} {l : Bool} (h : BoxD w p c y m d l) (c' y' m' d' : Int) (l' : Bool) :
    BoxD (((((w.setCell ⟨p, 0, none⟩ (.int .i64 c')).setCell ⟨p, 1, none⟩ (.int .i64 y')).setCell ⟨p, 2, none⟩ (.int .i64 m')).setCell ⟨p, 3, none⟩ (.int .i64 d')).setCell ⟨p, 4, none⟩ (.bool l')) p c' y' m' d' l' :=
  heap_setCell_same _ _ _ _ _ _ (heap_setCell_same _ _ _ _ _ _ (heap_setCell_same _ _ _ _ _ _ (heap_setCell_same _ _ _ _ _ _ (heap_setCell_same _ _ _ _ _ _ h))))
theorem BoxD.other {w : World} {p : Nat} {c y m d : Int} {l : Bool} (h : BoxD w p c y m d l) {a : Addr} (hp : p ≠ a.block) (v : Value) : BoxD (w.setCell a v) p c y m d l :=
  (heap_setCell_other w a p v hp).trans h
theorem setRow_alloc (w : World) (a b : Array Value) (t : TypeId) : (w.alloc (.cells a t)).setRow w.heap.size b = w.alloc (.cells b t) := by
  have key : ∀ f : Obj → Obj, f (.cells a t) = .cells b t → (w.heap.push (.cells a t)).modify w.heap.size f = w.heap.push (.cells b t) := by
    intro f hf
    apply Array.ext_getElem?
    intro i
    rw [Array.getElem?_modify]
    by_cases h : i = w.heap.size
    · subst h; simp [hf]
    · have h' : ¬ w.heap.size = i := fun e => h e.symm
      simp [Array.getElem?_push, h, h']
  exact congrArg (fun h => ({ w with heap := h } : World)) (key _ rfl)
/-- A new block that is filled at once. -/
theorem setD_alloc (w : World) {H : Nat} (hH : w.heap.size = H) (o0 o1 o2 o3 o4 v0 v1 v2 v3 v4 : Value) (t : TypeId) :
    (((((w.alloc (.cells #[o0, o1, o2, o3, o4] t)).setCell ⟨H, 0, none⟩ v0).setCell ⟨H, 1, none⟩ v1).setCell ⟨H, 2, none⟩ v2).setCell ⟨H, 3, none⟩ v3).setCell ⟨H, 4, none⟩ v4 = w.alloc (.cells #[v0, v1, v2, v3, v4] t) := by
  subst hH
  have h0 : (w.alloc (.cells #[o0, o1, o2, o3, o4] t)).heap[w.heap.size]? = some (.cells #[o0, o1, o2, o3, o4] t (0, 0)) := World.alloc_heap_new _ _
  have h1 := heap_setCell_same _ _ 0 _ _ v0 h0
  have h2 := heap_setCell_same _ _ 1 _ _ v1 h1
  have h3 := heap_setCell_same _ _ 2 _ _ v2 h2
  have h4 := heap_setCell_same _ _ 3 _ _ v3 h3
  rw [setCell_eq_setRow _ _ _ _ _ _ _ h4, setCell_eq_setRow _ _ _ _ _ _ _ h3, setCell_eq_setRow _ _ _ _ _ _ _ h2, setCell_eq_setRow _ _ _ _ _ _ _ h1, setCell_eq_setRow _ _ _ _ _ _ _ h0, setRow_setRow, setRow_setRow, setRow_setRow, setRow_setRow]
  exact setRow_alloc _ _ _ _

/-- Are two dates equal? -/
def deq (c y m d : Int) (l : Bool) (c' y' m' d' : Int) (l' : Bool) : Bool := decide (c = c' ∧ y = y' ∧ m = m' ∧ d = d' ∧ l = l')
theorem deq_refl (c y m d : Int) (l : Bool) : deq c y m d l c y m d l = true := by simp [deq]
theorem deq_iff {c y m d : Int} {l : Bool} {c' y' m' d' : Int} {l' : Bool} : deq c y m d l c' y' m' d' l' = true ↔ (c = c' ∧ y = y' ∧ m = m' ∧ d = d' ∧ l = l') := by simp [deq]
theorem deq_not {c y m d : Int} {l : Bool} {c' y' m' d' : Int} {l' : Bool} (h : ¬ (c = c' ∧ y = y' ∧ m = m' ∧ d = d' ∧ l = l')) : deq c y m d l c' y' m' d' l' = false := by simpa [deq] using h
theorem deq_mk (c y m d : Int) (l : Bool) (c' y' m' d' : Int) (l' : Bool) : (c == c' && (y == y' && (m == m' && (d == d' && l == l')))) = deq c y m d l c' y' m' d' l' := by
  rw [Bool.eq_iff_iff]
  simp [deq]
@[go_sem high] theorem eqlD (c y m d : Int) (l : Bool) (c' y' m' d' : Int) (l' : Bool) (w : World) :
    (binOp .eql 34 (.agg #[.int .i64 c, .int .i64 y, .int .i64 m, .int .i64 d, .bool l]) (.agg #[.int .i64 c', .int .i64 y', .int .i64 m', .int .i64 d', .bool l'])).run Tryd.prog w = .ok (.bool (deq c y m d l c' y' m' d' l')) w := by
  rw [← deq_mk]
  go_simp
  by_cases h1 : c = c' <;> by_cases h2 : y = y' <;> by_cases h3 : m = m' <;> by_cases h4 : d = d' <;> by_cases h5 : l = l' <;> simp [h1, h2, h3, h4, h5]
@[go_sem high] theorem neqD (c y m d : Int) (l : Bool) (c' y' m' d' : Int) (l' : Bool) (w : World) :
    (binOp .neq 34 (.agg #[.int .i64 c, .int .i64 y, .int .i64 m, .int .i64 d, .bool l]) (.agg #[.int .i64 c', .int .i64 y', .int .i64 m', .int .i64 d', .bool l'])).run Tryd.prog w = .ok (.bool (!(deq c y m d l c' y' m' d' l'))) w := by
  rw [← deq_mk]
  go_simp
  by_cases h1 : c = c' <;> by_cases h2 : y = y' <;> by_cases h3 : m = m' <;> by_cases h4 : d = d' <;> by_cases h5 : l = l' <;> simp [h1, h2, h3, h4, h5]
end Go.Proofs.YtdeojpmimhagjabDoor
