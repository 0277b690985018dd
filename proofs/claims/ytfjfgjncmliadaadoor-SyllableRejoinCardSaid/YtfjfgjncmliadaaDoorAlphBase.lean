/-
  What the walks over package alphabet share: how a slice of letters lies in memory ('Ll'), worlds that only grew ('Aft'), the forms of results.
-/
import Derived.Test.YtfjfgjncmliadaaDoorProg
import Derived.Test.YtfjfgjncmliadaaDoorAlphPlain
import Derived.WalkKit
import Derived.WalkLawsBesides
import Derived.Laws.StructEq
import Derived.Laws.Tables
import Derived.Deep.LoopGhost
import Derived.Deep.QuietTactic
import Derived.BigQuiet
import Derived.Deep.Draws
import Derived.Lib.Hide
import Derived.KernelRfl
namespace Go.Proofs.YtfjfgjncmliadaaDoor
open Go.RowKit
open AlphPlain

/-- w' is w with new memory; nothing that was there has changed. -/
def Aft (w w' : World) : Prop := Below w.heap.size w w'
theorem Aft.refl (w : World) : Aft w w := Below.refl _ _
theorem Aft.trans {a b c : World} (h : Aft a b) (k : Aft b c) : Aft a c := Below.trans h (Below.mono k (Below.size h))
theorem Aft.alloc {a w : World} (h : Aft a w) (o : Obj) : Aft a (w.alloc o) := Below.alloc h (Below.size h) o
theorem Aft.drewN {a w : World} (h : Aft a w) (n : Nat) : Aft a (w.drewN n) := ⟨h.os, h.tape, h.output, h.size, h.block⟩
theorem Aft.setCell {a w : World} (h : Aft a w) {p : Addr} (hp : a.heap.size ≤ p.block) (u : Value) : Aft a (w.setCell p u) := Below.setCell h hp u
theorem Aft.cell {w w' : World} (h : Aft w w') {p : Addr} {v : Value} (hc : w.cell? p = some v) : w'.cell? p = some v := (Below.cell h (World.block_lt_of_cell? w p hc)).trans hc
theorem Aft.size {w w' : World} (h : Aft w w') : w.heap.size ≤ w'.heap.size := Below.size h
theorem Aft.grown {a w w' : World} {row : Option Nat} (h : Aft a w) (hg : w.grownBy w' row) (hr : ∀ k, row = some k → a.heap.size ≤ k) : Aft a w' := Below.grown h hg (Below.size h) hr

def BoolPost (w : World) (r : Bool) (e : Ending) (w' : World) : Prop := e = .returned (.bool r) ∧ Aft w w'
def ValPost (w : World) (r : Value) (e : Ending) (w' : World) : Prop := e = .returned r ∧ Aft w w'

/-- THE SLICE '.slice A n c' HOLDS THE LETTERS ls. -/
structure Ll (w : World) (A : Option Addr) (n c : Nat) (ls : List Lt) : Prop where
  len : ls.length = n
  le : n ≤ c
  max : n * 8 ≤ 281474976710656
  cmax : c ≤ 9223372036854775807
  nl : A = none → c = 0
  cells : ∀ i l, ls[i]? = some l → ∃ b off, A = some ⟨b, off, none⟩ ∧ w.cell? ⟨b, off + i * 2, none⟩ = some (.int .i32 l.1) ∧ w.cell? ⟨b, off + i * 2 + 1, none⟩ = some (.int .u32 l.2)
  wf : ∀ l ∈ ls, (Lit.int .i32 l.1).wf = true ∧ (Lit.int .u32 l.2).wf = true

theorem Ll.aft {w w' : World} {A : Option Addr} {n c : Nat} {ls : List Lt} (h : Ll w A n c ls) (k : Aft w w') : Ll w' A n c ls :=
  ⟨h.len, h.le, h.max, h.cmax, h.nl, fun i f hi => by
    obtain ⟨b, off, hA, h1, h2⟩ := h.cells i f hi
    exact ⟨b, off, hA, k.cell h1, k.cell h2⟩, h.wf⟩

theorem Ll.at_ {w : World} {A : Option Addr} {n c k : Nat} {ls : List Lt} (h : Ll w A n c ls) (hk : k < n) :
    ∃ b off l, A = some ⟨b, off, none⟩ ∧ ls[k]? = some l ∧ w.cell? ⟨b, off + k * 2, none⟩ = some (.int .i32 l.1) ∧ w.cell? ⟨b, off + k * 2 + 1, none⟩ = some (.int .u32 l.2) := by
  have hl : k < ls.length := by have := h.len; omega
  have hi : ls[k]? = some ls[k] := List.getElem?_eq_getElem hl
  obtain ⟨b, off, hA, h1, h2⟩ := h.cells k _ hi
  exact ⟨b, off, _, hA, hi, h1, h2⟩

theorem drop_of_get {α : Type} {l : List α} {k : Nat} {x : α} (h : l[k]? = some x) : l.drop k = x :: l.drop (k + 1) := by
  obtain ⟨hk, rfl⟩ := List.getElem?_eq_some_iff.1 h
  exact List.drop_eq_getElem_cons hk
theorem take_next {α : Type} {l : List α} {k : Nat} {x : α} (h : l[k]? = some x) : l.take (k + 1) = l.take k ++ [x] := by
  rw [List.take_add_one, h]; rfl

theorem two_cells (w : World) (x y : Value) (t : TypeId) : (w.alloc (.cells #[x, y] t)).cell? ⟨w.heap.size, 0, none⟩ = some x ∧ (w.alloc (.cells #[x, y] t)).cell? ⟨w.heap.size, 1, none⟩ = some y := by
  constructor <;> simp
end Go.Proofs.YtfjfgjncmliadaaDoor
