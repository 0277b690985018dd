/-
  A row of strings that a call made and rewrites: 'Sw w1 blk d W': W is w1 but for new memory and block blk, which holds the strings d. Conditions: as each theorem says.
-/
import Derived.Test.YtgnhkacndmdfgaaDoorAlphOrder
import Derived.Test.YtgnhkacndmdfgaaDoorSortPlain
import Derived.Test.YtgnhkacndmdfgaaDoorRegion
namespace Go.Proofs.YtgnhkacndmdfgaaDoor
open Go.RowKit
open AlphPlain SortPlain

structure Sw (w1 : World) (blk : Nat) (d : List ByteArray) (W : World) : Prop where
  os : W.os = w1.os
  tape : W.tape = w1.tape
  output : W.output = w1.output
  size : w1.heap.size ≤ W.heap.size
  lt : blk < w1.heap.size
  other : ∀ k, k < w1.heap.size → k ≠ blk → W.heap[k]? = w1.heap[k]?
  cells : ∀ i s, d[i]? = some s → W.cell? ⟨blk, i, none⟩ = some (.string s)
  thaw : ∀ i, i < d.length → W.frozen? ⟨blk, i, none⟩ = false

theorem Sw.start {w1 : World} {blk : Nat} {d : List ByteArray} (hb : blk < w1.heap.size) (hc : ∀ i s, d[i]? = some s → w1.cell? ⟨blk, i, none⟩ = some (.string s)) (hf : ∀ i, i < d.length → w1.frozen? ⟨blk, i, none⟩ = false) : Sw w1 blk d w1 :=
  ⟨rfl, rfl, rfl, Nat.le_refl _, hb, fun _ _ _ => rfl, hc, hf⟩
theorem Sw.aft {w1 W W' : World} {blk : Nat} {d : List ByteArray} (h : Sw w1 blk d W) (a : Aft W W') : Sw w1 blk d W' :=
  ⟨a.os.trans h.os, a.tape.trans h.tape, a.output.trans h.output, Nat.le_trans h.size a.size, h.lt, fun k hk hne => (a.block k (Nat.lt_of_lt_of_le hk h.size)).trans (h.other k hk hne),
    fun i s hi => Aft.cell a (h.cells i s hi), fun i hi => (Below.frozen a (p := ⟨blk, i, none⟩) (Nat.lt_of_lt_of_le h.lt h.size)).trans (h.thaw i hi)⟩
/-- What lay elsewhere lies there still. -/
theorem Sw.base {w w1 W : World} {blk : Nat} {d : List ByteArray} (h : Sw w1 blk d W) (a : Aft w w1) (hb : w.heap.size ≤ blk) : Aft w W :=
  ⟨h.os.trans a.os, h.tape.trans a.tape, h.output.trans a.output, Nat.le_trans a.size h.size, fun k hk => (h.other k (Nat.lt_of_lt_of_le hk a.size) (by omega)).trans (a.block k hk)⟩
theorem Sw.cellOther {w1 W : World} {blk : Nat} {d : List ByteArray} (h : Sw w1 blk d W) {p : Addr} {v : Value} (hp : p.block ≠ blk) (hc : w1.cell? p = some v) : W.cell? p = some v :=
  (World.cell?_of_block (w := w1) (h.other p.block (World.block_lt_of_cell? w1 p hc) hp)).trans hc
theorem Sw.posIn {w1 W : World} {blk : Nat} {d : List ByteArray} (h : Sw w1 blk d W) {Bm k : Nat} {D : DataW Unit} {ls : List Lt} (hne : Bm ≠ blk) (hp : PosIn w1 Bm k D ls) : PosIn W Bm k D ls := by
  refine ⟨?_, hp.has, hp.pos, hp.size⟩
  have hlt := hp.own.lt
  obtain ⟨es, clock, hb, r⟩ := hp.own
  exact ⟨es, clock, (h.other Bm hlt hne).trans hb, r⟩

theorem Sw.set1 {w1 W : World} {blk : Nat} {d : List ByteArray} (h : Sw w1 blk d W) {i : Nat} {x : ByteArray} (y : ByteArray) (hi : d[i]? = some x) : Sw w1 blk (d.set i y) (W.setCell ⟨blk, i, none⟩ (.string y)) := by
  refine ⟨h.os, h.tape, h.output, Nat.le_trans h.size (by simp [World.setCell]), h.lt, fun k hk hne => (Below.heap_setCell _ _ _ _ hne).trans (h.other k hk hne), fun j s hj => ?_, fun j hj => ?_⟩
  · by_cases e : j = i
    · subst e
      rw [List.getElem?_set_self (List.getElem?_eq_some_iff.1 hi).1] at hj
      cases hj
      exact World.cell?_setCell_same _ _ _ (h.cells j x hi)
    · rw [List.getElem?_set_ne (fun k => e k.symm)] at hj
      rw [World.cell?_setCell_other _ _ _ _ (by intro k; simp only [Addr.mk.injEq] at k; omega)]
      exact h.cells j s hj
  · rw [World.frozen?_setCell]
    exact h.thaw j (by rwa [List.length_set] at hj)
theorem Sw.drew {w1 W : World} {blk : Nat} {d : List ByteArray} (h : Sw w1 blk d W) : Sw w1 blk d W.drew := h.aft (Below.drew (Aft.refl W))

/-- Two strings exchanged. -/
def exch (d : List ByteArray) (i j : Nat) (x y : ByteArray) : List ByteArray := (d.set i y).set j x
theorem Sw.swap {w1 W : World} {blk : Nat} {d : List ByteArray} (h : Sw w1 blk d W) {i j : Nat} {x y : ByteArray} (hi : d[i]? = some x) (hj : d[j]? = some y) (hne : i ≠ j) :
    Sw w1 blk (exch d i j x y) ((W.setCell ⟨blk, i, none⟩ (.string y)).setCell ⟨blk, j, none⟩ (.string x)) :=
  (h.set1 y hi).set1 x (by rw [List.getElem?_set_ne hne]; exact hj)
theorem exch_app (X Y Z : List ByteArray) (x y : ByteArray) (i j : Nat) (hi : i = X.length) (hj : j = X.length + 1 + Y.length) : exch (X ++ x :: (Y ++ y :: Z)) i j x y = X ++ y :: (Y ++ x :: Z) := by
  subst hi hj
  unfold exch
  rw [List.set_append_right _ _ (Nat.le_refl _), Nat.sub_self, List.set_cons_zero, List.set_append_right _ _ (by omega), show X.length + 1 + Y.length - X.length = Y.length + 1 by omega, List.set_cons_succ, List.set_append_right _ _ (Nat.le_refl _), Nat.sub_self, List.set_cons_zero]
theorem exch_app' (X Y Z : List ByteArray) (x y : ByteArray) (i j : Nat) (hi : i = X.length) (hj : j = X.length + 1 + Y.length) : exch (X ++ x :: (Y ++ y :: Z)) j i y x = X ++ y :: (Y ++ x :: Z) := by
  subst hi hj
  unfold exch
  rw [List.set_append_right _ _ (by omega), show X.length + 1 + Y.length - X.length = Y.length + 1 by omega, List.set_cons_succ, List.set_append_right _ _ (Nat.le_refl _), Nat.sub_self, List.set_cons_zero, List.set_append_right _ _ (Nat.le_refl _), Nat.sub_self, List.set_cons_zero]
theorem at_app (X Z : List ByteArray) (x : ByteArray) (i : Nat) (hi : i = X.length) : (X ++ x :: Z)[i]? = some x := by
  subst hi
  rw [List.getElem?_append_right (Nat.le_refl _), Nat.sub_self]; rfl
end Go.Proofs.YtgnhkacndmdfgaaDoor
