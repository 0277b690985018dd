/-
  What the walks over package numeral share: worlds that only grew ('Aft'), slices of one-cell elements ('Rw'), numeral systems in memory. No conditions of its own.
-/
import Derived.Test.YtdehghmpfkhljaaDoorProg
import Derived.Test.YtdehghmpfkhljaaDoorNumPlain
import Derived.WalkKit
import Derived.WalkLawsBesides
import Derived.Laws.StructEq
import Derived.Laws.Tables
import Derived.Deep.LoopGhost
import Derived.Deep.QuietTactic
import Derived.BigQuiet
import Derived.Deep.Draws
import Derived.Lib.Hide
import Derived.KernelRfl
import Derived.Laws.EntriesVeiled
import Derived.Lib.FrozenHead2
import Derived.OwnWalk
namespace Go.Proofs.YtdehghmpfkhljaaDoor
open Go.RowKit
open NumPlain

/-- w' is w with new memory; nothing that was there has changed. -/
def Aft (w w' : World) : Prop := Below w.heap.size w w'
theorem Aft.refl (w : World) : Aft w w := Below.refl _ _
theorem Aft.trans {a b c : World} (h : Aft a b) (k : Aft b c) : Aft a c := Below.trans h (Below.mono k (Below.size h))
theorem Aft.alloc {a w : World} (h : Aft a w) (o : Obj) : Aft a (w.alloc o) := Below.alloc h (Below.size h) o
theorem Aft.drewN {a w : World} (h : Aft a w) (n : Nat) : Aft a (w.drewN n) := ⟨h.os, h.tape, h.output, h.size, h.block⟩
theorem Aft.setCell {a w : World} (h : Aft a w) {p : Addr} (hp : a.heap.size ≤ p.block) (u : Value) : Aft a (w.setCell p u) := Below.setCell h hp u
theorem Aft.cell {w w' : World} (h : Aft w w') {p : Addr} {v : Value} (hc : w.cell? p = some v) : w'.cell? p = some v := (Below.cell h (World.block_lt_of_cell? w p hc)).trans hc
theorem Aft.size {w w' : World} (h : Aft w w') : w.heap.size ≤ w'.heap.size := Below.size h
theorem Aft.grown {a w w' : World} {row : Option Nat} (h : Aft a w) (hg : w.grownBy w' row) (hr : ∀ k, row = some k → a.heap.size ≤ k) : Aft a w' := Below.grown h hg (Below.size h) hr

def BoolPost (w : World) (r : Bool) (e : Ending) (w' : World) : Prop := e = .returned (.bool r) ∧ Aft w w'
def ValPost (w : World) (r : Value) (e : Ending) (w' : World) : Prop := e = .returned r ∧ Aft w w'

theorem drop_of_get {α : Type} {l : List α} {k : Nat} {x : α} (h : l[k]? = some x) : l.drop k = x :: l.drop (k + 1) := by
  obtain ⟨hk, rfl⟩ := List.getElem?_eq_some_iff.1 h
  exact List.drop_eq_getElem_cons hk
theorem take_next {α : Type} {l : List α} {k : Nat} {x : α} (h : l[k]? = some x) : l.take (k + 1) = l.take k ++ [x] := by
  rw [List.take_add_one, h]; rfl

theorem two_cells (w : World) (x y : Value) (t : TypeId) : (w.alloc (.cells #[x, y] t)).cell? ⟨w.heap.size, 0, none⟩ = some x ∧ (w.alloc (.cells #[x, y] t)).cell? ⟨w.heap.size, 1, none⟩ = some y := by
  constructor <;> simp
/-- THE SLICE '.slice A n c' HOLDS the elements l, each in one cell, as enc writes it. -/
structure Rw {α : Type} (enc : α → Value) (w : World) (A : Option Addr) (n c : Nat) (l : List α) : Prop where
  len : l.length = n
  le : n ≤ c
  cmax : c ≤ 9223372036854775807
  nl : A = none → c = 0
  cells : ∀ i x, l[i]? = some x → ∃ b off, A = some ⟨b, off, none⟩ ∧ w.cell? ⟨b, off + i, none⟩ = some (enc x)

theorem Rw.aft {α : Type} {enc : α → Value} {w w' : World} {A : Option Addr} {n c : Nat} {l : List α} (h : Rw enc w A n c l) (k : Aft w w') : Rw enc w' A n c l :=
  ⟨h.len, h.le, h.cmax, h.nl, fun i x hi => by
    obtain ⟨b, off, hA, h1⟩ := h.cells i x hi
    exact ⟨b, off, hA, k.cell h1⟩⟩
theorem Rw.at_ {α : Type} {enc : α → Value} {w : World} {A : Option Addr} {n c k : Nat} {l : List α} (h : Rw enc w A n c l) (hk : k < n) :
    ∃ b off x, A = some ⟨b, off, none⟩ ∧ l[k]? = some x ∧ w.cell? ⟨b, off + k, none⟩ = some (enc x) := by
  have hl : k < l.length := by have := h.len; omega
  have hi : l[k]? = some l[k] := List.getElem?_eq_getElem hl
  obtain ⟨b, off, hA, h1⟩ := h.cells k _ hi
  exact ⟨b, off, _, hA, hi, h1⟩
theorem Rw.nil {α : Type} {enc : α → Value} {w : World} : Rw enc w none 0 0 [] := ⟨rfl, Nat.le_refl _, by omega, fun _ => rfl, fun i f h => by simp at h⟩
theorem Rw.of_row {α : Type} {enc : α → Value} {w : World} {base n : Nat} {e : TypeId} {v : Value} {l : List α} (h : w.ownsRow base e 1 v n (l.map enc)) (hl : l.length = n) : ∃ A c, v = .slice A n c ∧ Rw enc w A n c l := by
  rcases h.2 with ⟨rfl, rfl⟩ | ⟨g, cap, cur, rfl, _, _, hle, hc, _⟩
  · have : l = [] := List.length_eq_zero_iff.1 hl
    subst this
    exact ⟨none, 0, rfl, Rw.nil⟩
  · refine ⟨_, _, rfl, hl, hle, by unfold maxLen at hc; omega, fun e => (by cases e), fun i x hi => ?_⟩
    have hlt : i < n := by have := (List.getElem?_eq_some_iff.1 hi).1; omega
    refine ⟨g, 0, rfl, ?_⟩
    rw [Nat.zero_add, h.cellAt _ (by omega), List.getElem?_map, hi]
    rfl
theorem map_one {α : Type} {enc : α → Value} (h : ∀ x, (enc x).oneCell' = true) (l : List α) : ∀ u ∈ l.map enc, u.oneCell' = true := by
  intro u hu
  obtain ⟨s, _, rfl⟩ := List.mem_map.1 hu
  exact h s
theorem row_from {wo wr : World} {e : TypeId} {s : Nat} {v : Value} {n : Nat} {l : List Value} (h : wr.ownsRow wo.heap.size e s v n l) : ∀ g, v.ownBlock = some g → wo.heap.size ≤ g := fun g hg => (h.lt g hg).1
theorem one_val (w : World) (v : Value) (e : TypeId) (H : Nat) (h : w.heap.size = H) : ∀ j u, ([v] : List Value)[j]? = some u → (w.alloc (.cells #[v] e)).cell? ((⟨H, 0, none⟩ : Addr).add j) = some u := by
  subst h
  intro j u hj
  match j, hj with
  | 0, hj => simp at hj; subst hj; simp [Addr.add]
  | j + 1, hj => simp at hj
theorem lit_rw {α : Type} {enc : α → Value} (w : World) (e : TypeId) (l : List α) (h : l.length ≤ 1000) : Rw enc (w.alloc (.cells (l.map enc).toArray e)) (some ⟨w.heap.size, 0, none⟩) l.length l.length l := by
  refine ⟨rfl, Nat.le_refl _, by omega, fun e => (by cases e), fun i x hi => ⟨w.heap.size, 0, rfl, ?_⟩⟩
  simp [hi]

abbrev vI (z : Int) : Value := .int .i64 z

theorem toList_beq (a b : ByteArray) : (a.toList == b.toList) = decide (a = b) := by
  rw [ByteArray.toList_eq, ByteArray.toList_eq]
  obtain ⟨⟨x⟩⟩ := a
  obtain ⟨⟨y⟩⟩ := b
  by_cases h : x = y
  · subst h; simp
  · simp [h]
theorem empty_iff (s : ByteArray) : s.toList.isEmpty = decide (s.size = 0) := by
  rw [ByteArray.toList_eq]
  obtain ⟨⟨l⟩⟩ := s
  cases l <;> simp [ByteArray.size]


theorem wf_range {z : Int} (h : (Lit.int .i64 z).wf = true) : -9223372036854775808 ≤ z ∧ z ≤ 9223372036854775807 := by
  simp [Lit.wf, IntKind.min, IntKind.max, IntKind.bits, IntKind.signed] at h
  omega
abbrev sV : BA → Value := Value.string
theorem Rw.take' {α : Type} {enc : α → Value} {w : World} {A : Option Addr} {n c k : Nat} {l : List α} (h : Rw enc w A n c l) (hk : k ≤ n) : Rw enc w A k c (l.take k) := by
  have h0 := h.len
  have h1 := h.le
  exact ⟨by simp; omega, by omega, h.cmax, h.nl, fun i u hi => by
    have hlt : i < k := by have := (List.getElem?_eq_some_iff.1 hi).1; simp at this; omega
    rw [List.getElem?_take_of_lt hlt] at hi
    exact h.cells i u hi⟩
theorem Rw.one {α : Type} {enc : α → Value} {w : World} {b off n c k : Nat} {l : List α} {x : α} (h : Rw enc w (some ⟨b, off, none⟩) n c l) (hx : l[k]? = some x) : Rw enc w (some ⟨b, off + k, none⟩) 1 (c - k) [x] := by
  have h0 := h.len
  have h1 := h.le
  have h2 := h.cmax
  have hlt : k < l.length := (List.getElem?_eq_some_iff.1 hx).1
  refine ⟨rfl, by omega, by omega, fun e => (by cases e), fun i u hi => ?_⟩
  match i, hi with
  | 0, hi =>
    simp at hi
    subst hi
    obtain ⟨b', o', e, g⟩ := h.cells k x hx
    cases e
    exact ⟨b, off + k, rfl, g⟩
  | i + 1, hi => simp at hi

/-- The value of a numeral system. -/
abbrev nV (x : Nm) : Value := .agg #[.int .i64 x.base, .slice x.da x.dn x.dc, .slice x.pa x.pn x.pc, .bool x.sf, .string x.jo, .int .i64 x.sub, .string x.le, .bool x.om]
abbrev nC (x : Nm) : Array Value := #[.int .i64 x.base, .slice x.da x.dn x.dc, .slice x.pa x.pn x.pc, .bool x.sf, .string x.jo, .int .i64 x.sub, .string x.le, .bool x.om]
/-- The words of a system lie where it says. -/
structure Nw (w : World) (x : Nm) : Prop where
  rd : Rw sV w x.da x.dn x.dc x.ds
  rp : Rw sV w x.pa x.pn x.pc x.ps
theorem Nw.aft {w w' : World} {x : Nm} (h : Nw w x) (k : Aft w w') : Nw w' x := ⟨h.rd.aft k, h.rp.aft k⟩
/-- A system lies in block B. -/
structure Bx (w : World) (B : Nat) (x : Nm) : Prop where
  c0 : w.cell? ⟨B, 0, none⟩ = some (.int .i64 x.base)
  c1 : w.cell? ⟨B, 1, none⟩ = some (.slice x.da x.dn x.dc)
  c2 : w.cell? ⟨B, 2, none⟩ = some (.slice x.pa x.pn x.pc)
  c3 : w.cell? ⟨B, 3, none⟩ = some (.bool x.sf)
  c4 : w.cell? ⟨B, 4, none⟩ = some (.string x.jo)
  c5 : w.cell? ⟨B, 5, none⟩ = some (.int .i64 x.sub)
  c6 : w.cell? ⟨B, 6, none⟩ = some (.string x.le)
  c7 : w.cell? ⟨B, 7, none⟩ = some (.bool x.om)
theorem Bx.aft {w w' : World} {B : Nat} {x : Nm} (h : Bx w B x) (k : Aft w w') : Bx w' B x := ⟨k.cell h.c0, k.cell h.c1, k.cell h.c2, k.cell h.c3, k.cell h.c4, k.cell h.c5, k.cell h.c6, k.cell h.c7⟩
theorem Bx.new (w : World) (x : Nm) (t : TypeId) : Bx (w.alloc (.cells (nC x) t)) w.heap.size x := by
  constructor <;> simp
def SlPost (w : World) (l : List BA) (e : Ending) (w' : World) : Prop := (∃ (X : Option Addr) (nx cx : Nat), e = .returned (.slice X nx cx) ∧ Rw sV w' X nx cx l) ∧ Aft w w'
def SamePost (w : World) (r : Bool) (e : Ending) (w' : World) : Prop := e = .returned (.bool r) ∧ w = w'
end Go.Proofs.YtdehghmpfkhljaaDoor
