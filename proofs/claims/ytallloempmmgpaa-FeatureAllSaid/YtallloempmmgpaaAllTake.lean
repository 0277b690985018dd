/-
  take returns the first records of All. Conditions: the slice holds the dimensions; the number is from 1 to 5000.
-/
import Derived.Test.YtallloempmmgpaaAllIter
import Derived.Test.YtallloempmmgpaaAllSame
namespace Go.Proofs.Ytallloempmmgpaa
open Go.RowKit Go.Shelf
open FeatPlain

attribute [local go_sem] Oper.semAt_some

theorem Try.infoR : (Try.prog.info? 31).map (fun i => (i.zero, i.size, i.bytes)) = some (some (.slice none 0 0), 1, 24) := by kernel_rfl
theorem kq_keeps {B : Nat} {w : World} (hB : B ≤ w.heap.size) (W : World) (l : Nat) (o o' : Obj) (hl : w.heap.size ≤ l) (h : W.heap[l]? = some o) (hc : o.isCells = false) (_ : o.isWalk = false) : Kq B W (W.putObj l o') := by
  have g := grownBy_putObj' W l o'
  refine ⟨g.os, g.tape, g.output, g.size, fun k hk => g.block k ?_ (fun e => by cases e; omega), fun k cur t _ hk => (g.block k (Array.getElem?_eq_some_iff.1 hk).1 (fun e => ?_)).trans hk⟩
  · have := (Array.getElem?_eq_some_iff.1 h).1
    omega
  · cases e
    rw [h] at hk
    cases hk
    cases hc
/-- Between two rounds of take: H is its first box. -/
structure TInv (w : World) (k : Int) (pre : List Rc) (W : World) : Prop where
  ex : ∃ a c, Boxed W (w.heap.size + 1) 24 (.slice a pre.length c) ∧ W.ownsRow w.heap.size 31 1 (.slice a pre.length c) pre.length (pre.map (·.1))
  recs : ∀ x ∈ pre, Rec W x
  num : Boxed W w.heap.size 3 (.int .i64 k)
  aft : Aft w W
theorem TInv.own {w W0 : World} {k : Int} (h : w.heap.size + 1 < W0.heap.size) : OwnFrom W0.heap.size (TInv w k) := fun s A B row hs hg hr => by
  obtain ⟨a, c, h1, h2⟩ := hs.ex
  exact ⟨⟨a, c, h1.kept hg (fun e => by have := (hr _ e.symm).1; omega), row_own h2 hg (fun r e => (hr r e).2)⟩, fun x hx => (hs.recs x hx).own hg (fun r e => (hr r e).2), hs.num.kept hg (fun e => by have := (hr _ e.symm).1; omega), hs.aft.grown hg (fun k e => by have := (hr _ e).1; omega)⟩
theorem TInv.stp {w : World} {k : Int} {s : List Rc} {A B : World} (h : TInv w k s A) (hs : Stp w.heap.size s A B) : TInv w k s B := by
  obtain ⟨a, c, h1, h2⟩ := h.ex
  exact ⟨⟨a, c, hs.chg.box h1 (by decide), hs.chg.row h2 (by decide)⟩, fun x hx => (h.recs x hx).blk (fun r _ hr hc => hs.out x hx r hr (Array.getElem?_eq_some_iff.1 hc).1), hs.chg.box h.num (by decide), hs.chg.aft0 h.aft (Nat.le_refl _)⟩

/-- What a round leaves. -/
theorem TInv.next {w W w1 : World} {k : Int} {pre : List Rc} {x : Rc} {a : Option Addr} {c g c1 : Nat} {o : Obj} (h : TInv w k pre W) (hx : Rec W x) (hb : Boxed W (w.heap.size + 1) 24 (.slice a pre.length c)) (hr : W.ownsRow w.heap.size 31 1 (.slice a pre.length c) pre.length (pre.map (·.1)))
    (own1 : w1.ownsRow w.heap.size 31 1 (.slice (some ⟨g, 0, none⟩) (pre.length + 1) c1) (pre.length + 1) (pre.map (·.1) ++ [x.1])) (grow1 : (W.alloc o).grownBy w1 (Value.slice a pre.length c).ownBlock) :
    Boxed w1 (w.heap.size + 1) 24 (.slice a pre.length c) ∧ TInv w k (pre ++ [x]) (w1.setCell ⟨w.heap.size + 1, 0, none⟩ (.slice (some ⟨g, 0, none⟩) (pre.length + 1) c1)) ∧ Kq w.heap.size W (w1.setCell ⟨w.heap.size + 1, 0, none⟩ (.slice (some ⟨g, 0, none⟩) (pre.length + 1) c1)) ∧
      KeepsOthers W (w1.setCell ⟨w.heap.size + 1, 0, none⟩ (.slice (some ⟨g, 0, none⟩) (pre.length + 1) c1)) := by
  have hs := h.aft.size
  obtain ⟨b1, b2, r2, k2, _⟩ := hb.appended (by decide) hr hs (by omega) own1 grow1
  have c1' : Kq w.heap.size W w1 := (Chg.of_aft ((Aft.refl W).alloc o) hs).trans (Chg.of_grown grow1 (by simp; omega) (fun r e => ⟨(row_type (hr.alloc o) r e).1, fun cur t ht => by rw [(row_type (hr.alloc o) r e).2 cur t ht]; simp⟩))
  have c2 : Kq w.heap.size w1 (w1.setCell ⟨w.heap.size + 1, 0, none⟩ (.slice (some ⟨g, 0, none⟩) (pre.length + 1) c1)) := (Chg.set b1 _ (by omega) (Nat.le_trans hs c1'.size)).mono (by simp)
  have c3 := c1'.trans c2
  refine ⟨b1, ⟨⟨_, _, by rw [List.length_append]; exact b2, by rw [List.length_append, List.map_append]; exact r2⟩, fun y hy => ?_, c3.box h.num (by decide), c3.aft0 h.aft (Nat.le_refl _)⟩, c3, k2⟩
  rcases List.mem_append.1 hy with hy | hy
  · exact (h.recs y hy).chg c3 (by decide)
  · rw [List.mem_singleton.1 hy]
    exact hx.chg c3 (by decide)

/-- The records as a slice of slices. -/
theorem TInv.sls {w W : World} {k : Int} {pre : List Rc} (h : TInv w k pre W) : ∃ a c, W.cell? ⟨w.heap.size + 1, 0, none⟩ = some (.slice a pre.length c) ∧ Sls W a pre.length c (pre.map (·.2)) := by
  obtain ⟨a, c, h1, h2⟩ := h.ex
  refine ⟨a, c, h1.cell, ?_⟩
  have h2' := h2
  rcases h2.2 with ⟨e, e0⟩ | ⟨g, cap, cur, e, _, _, hle, hc, _⟩
  · have : pre = [] := List.length_eq_zero_iff.1 e0
    subst this
    simp at e
    obtain ⟨rfl, rfl⟩ := e
    exact ⟨rfl, Nat.le_refl _, by omega, fun _ => rfl, fun i fs hi => by simp at hi⟩
  · cases e
    refine ⟨by simp, hle, by unfold maxLen at hc; omega, fun e => (by cases e), fun i fs hi => ?_⟩
    rw [List.getElem?_map] at hi
    obtain ⟨x, hx, rfl⟩ := Option.map_eq_some_iff.1 hi
    obtain ⟨A, n, d, e1, s, hn, _⟩ := h.recs x (List.mem_of_getElem? hx)
    have hlt : i < pre.length := (List.getElem?_eq_some_iff.1 hx).1
    refine ⟨g, 0, A, n, d, rfl, ?_, s, hn⟩
    rw [Nat.zero_add, h2'.cellAt _ (by omega), List.getElem?_map, hx, ← e1]
    rfl
end Go.Proofs.Ytallloempmmgpaa
