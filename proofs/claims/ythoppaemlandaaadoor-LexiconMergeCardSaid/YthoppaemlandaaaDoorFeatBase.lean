/-
  What the walks over package feature share: how a slice of features lies in memory ('Sl'), what '==' says of two features, and the closed facts of the translation.
-/
import Derived.Test.YthoppaemlandaaaDoorProg
import Derived.Test.YthoppaemlandaaaDoorFeatPlain
import Derived.WalkKit
import Derived.WalkLawsBesides
import Derived.Laws.StructEq
import Derived.Laws.Tables
import Derived.Deep.LoopGhost
import Derived.Deep.QuietTactic
import Derived.BigQuiet
import Derived.Deep.Draws
import Derived.Lib.Hide
import Derived.KernelRfl
namespace Go.Proofs.YthoppaemlandaaaDoor
open Go.RowKit
open FeatPlain

/-- Two features are equal. -/
def feq (f g : Ft) : Bool := decide (f = g)
theorem feq_mk (a b c d : ByteArray) : (a.toList == c.toList && b.toList == d.toList) = feq (a, b) (c, d) := by
  rw [toList_beq, toList_beq]
  unfold feq
  by_cases h1 : a = c <;> by_cases h2 : b = d <;> simp [h1, h2]
theorem feq_true {f g : Ft} (h : f = g) : feq f g = true := by simp [feq, h]
theorem feq_false {f g : Ft} (h : f ≠ g) : feq f g = false := by simp [feq, h]

@[go_sem high] theorem eqlF (f g : Ft) (w : World) :
    (binOp .eql 57 (.agg #[.string f.1, .string f.2]) (.agg #[.string g.1, .string g.2])).run Tryd.prog w = .ok (.bool (feq f g)) w := by
  have e := feq_mk f.1 f.2 g.1 g.2
  go_simp
  rw [show feq f g = feq (f.1, f.2) (g.1, g.2) from rfl, ← e]
  by_cases h1 : f.1.toList = g.1.toList <;> by_cases h2 : f.2.toList = g.2.toList <;> simp [h1, h2]
@[go_sem high] theorem neqF (f g : Ft) (w : World) :
    (binOp .neq 57 (.agg #[.string f.1, .string f.2]) (.agg #[.string g.1, .string g.2])).run Tryd.prog w = .ok (.bool (!(feq f g))) w := by
  have e := feq_mk f.1 f.2 g.1 g.2
  go_simp
  rw [show feq f g = feq (f.1, f.2) (g.1, g.2) from rfl, ← e]
  by_cases h1 : f.1.toList = g.1.toList <;> by_cases h2 : f.2.toList = g.2.toList <;> simp [h1, h2]

/-- THE SLICE '.slice A n c' HOLDS THE FEATURES fs. -/
structure Sl (w : World) (A : Option Addr) (n c : Nat) (fs : List Ft) : Prop where
  len : fs.length = n
  le : n ≤ c
  max : n * 32 ≤ 281474976710656
  cmax : c ≤ 9223372036854775807
  nl : A = none → c = 0
  cells : ∀ i f, fs[i]? = some f → ∃ b off, A = some ⟨b, off, none⟩ ∧ w.cell? ⟨b, off + i * 2, none⟩ = some (.string f.1) ∧ w.cell? ⟨b, off + i * 2 + 1, none⟩ = some (.string f.2)

theorem Sl.kept {w w' : World} {A : Option Addr} {n c : Nat} {fs : List Ft} (h : Sl w A n c fs) (hk : ∀ b off, A = some ⟨b, off, none⟩ → ∀ o, w'.cell? ⟨b, o, none⟩ = w.cell? ⟨b, o, none⟩) : Sl w' A n c fs :=
  ⟨h.len, h.le, h.max, h.cmax, h.nl, fun i f hi => by
    obtain ⟨b, off, hA, h1, h2⟩ := h.cells i f hi
    exact ⟨b, off, hA, (hk b off hA _).trans h1, (hk b off hA _).trans h2⟩⟩

theorem Sl.drewN {w : World} {A : Option Addr} {n c : Nat} {fs : List Ft} (h : Sl w A n c fs) (k : Nat) : Sl (w.drewN k) A n c fs := ⟨h.len, h.le, h.max, h.cmax, h.nl, h.cells⟩

theorem Sl.head {w : World} {A : Option Addr} {n c : Nat} {f : Ft} {fs : List Ft} (h : Sl w A n c (f :: fs)) :
    ∃ b off, A = some ⟨b, off, none⟩ ∧ w.cell? ⟨b, off, none⟩ = some (.string f.1) ∧ w.cell? ⟨b, off + 1, none⟩ = some (.string f.2) := by
  obtain ⟨b, off, hA, h1, h2⟩ := h.cells 0 f rfl
  exact ⟨b, off, hA, by simpa using h1, by simpa using h2⟩

theorem Sl.tail {w : World} {b off n c : Nat} {f : Ft} {fs : List Ft} (h : Sl w (some ⟨b, off, none⟩) n c (f :: fs)) : Sl w (some ⟨b, off + 2, none⟩) (n - 1) (c - 1) fs :=
  ⟨by have := h.len; simp at this; omega, by have := h.le; omega, by have := h.max; omega, by have := h.cmax; omega, (fun e => by cases e), fun i g hi => by
    obtain ⟨b', off', hA, h1, h2⟩ := h.cells (i + 1) g (by simpa using hi)
    simp only [Option.some.injEq, Addr.mk.injEq, and_true] at hA
    obtain ⟨rfl, rfl⟩ := hA
    refine ⟨b, off + 2, rfl, ?_, ?_⟩
    · rw [show off + 2 + i * 2 = off + (i + 1) * 2 from by omega]; exact h1
    · rw [show off + 2 + i * 2 + 1 = off + (i + 1) * 2 + 1 from by omega]; exact h2⟩

theorem Sl.nil {w : World} {A : Option Addr} {c : Nat} (hm : c ≤ 9223372036854775807) (hn : A = none → c = 0) : Sl w A 0 c [] := ⟨rfl, Nat.zero_le _, by omega, hm, hn, fun i f h => by simp at h⟩

theorem Sl.cut {w : World} {b off m c : Nat} {f : Ft} {fs : List Ft} (h : Sl w (some ⟨b, off, none⟩) (m + 1) c (f :: fs)) :
    Sl w (if c = 1 then some ⟨b, off, none⟩ else some ⟨b, off + 2, none⟩) m (c - 1) fs := by
  split
  · have hl := h.len
    have hle := h.le
    simp at hl
    obtain rfl : m = 0 := by omega
    have : fs = [] := List.length_eq_zero_iff.1 hl
    subst this
    exact Sl.nil (by have := h.cmax; omega) (fun e => by cases e)
  · exact h.tail

/-- w' is w with new memory; nothing that was there has changed. -/
def Aft (w w' : World) : Prop := Below w.heap.size w w'
theorem Aft.refl (w : World) : Aft w w := Below.refl _ _
theorem Aft.trans {a b c : World} (h : Aft a b) (k : Aft b c) : Aft a c := Below.trans h (Below.mono k (Below.size h))
theorem Aft.alloc {a w : World} (h : Aft a w) (o : Obj) : Aft a (w.alloc o) := Below.alloc h (Below.size h) o
theorem Aft.drew {a w : World} (h : Aft a w) : Aft a w.drew := Below.drew h
theorem Aft.drewN {a w : World} (h : Aft a w) (n : Nat) : Aft a (w.drewN n) := ⟨h.os, h.tape, h.output, h.size, h.block⟩
theorem Aft.setCell {a w : World} (h : Aft a w) {p : Addr} (hp : a.heap.size ≤ p.block) (u : Value) : Aft a (w.setCell p u) := Below.setCell h hp u
theorem Aft.cell {w w' : World} (h : Aft w w') {p : Addr} {v : Value} (hc : w.cell? p = some v) : w'.cell? p = some v := (Below.cell h (World.block_lt_of_cell? w p hc)).trans hc
theorem Aft.size {w w' : World} (h : Aft w w') : w.heap.size ≤ w'.heap.size := Below.size h
theorem Aft.grown {a w w' : World} {row : Option Nat} (h : Aft a w) (hg : w.grownBy w' row) (hr : ∀ k, row = some k → a.heap.size ≤ k) : Aft a w' := Below.grown h hg (Below.size h) hr

theorem Sl.aft {w w' : World} {A : Option Addr} {n c : Nat} {fs : List Ft} (h : Sl w A n c fs) (k : Aft w w') : Sl w' A n c fs :=
  ⟨h.len, h.le, h.max, h.cmax, h.nl, fun i f hi => by
    obtain ⟨b, off, hA, h1, h2⟩ := h.cells i f hi
    exact ⟨b, off, hA, k.cell h1, k.cell h2⟩⟩

/-- The k-th feature's cells. -/
theorem Sl.at_ {w : World} {A : Option Addr} {n c k : Nat} {fs : List Ft} (h : Sl w A n c fs) (hk : k < n) :
    ∃ b off f, A = some ⟨b, off, none⟩ ∧ fs[k]? = some f ∧ w.cell? ⟨b, off + k * 2, none⟩ = some (.string f.1) ∧ w.cell? ⟨b, off + k * 2 + 1, none⟩ = some (.string f.2) := by
  have hl : k < fs.length := by have := h.len; omega
  have hi : fs[k]? = some fs[k] := List.getElem?_eq_getElem hl
  obtain ⟨b, off, hA, h1, h2⟩ := h.cells k _ hi
  exact ⟨b, off, _, hA, hi, h1, h2⟩

theorem drop_of_get {α : Type} {l : List α} {k : Nat} {x : α} (h : l[k]? = some x) : l.drop k = x :: l.drop (k + 1) := by
  obtain ⟨hk, rfl⟩ := List.getElem?_eq_some_iff.1 h
  exact List.drop_eq_getElem_cons hk

def lenOf : Value → Nat
  | .slice _ n _ => n
  | _ => 0
end Go.Proofs.YthoppaemlandaaaDoor
