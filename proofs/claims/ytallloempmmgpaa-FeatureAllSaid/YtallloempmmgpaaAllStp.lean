/-
  What the iterator of All does to memory between two calls of yield ('Stp'), what it asks of a round ('Kq'), and how its own row of chosen features stands both. Conditions: as each theorem says.
-/
import Derived.Test.YtallloempmmgpaaAllBase
import Derived.Test.YtallloempmmgpaaAppCap
import Derived.Test.YtallloempmmgpaaRangeStL
namespace Go.Proofs.Ytallloempmmgpaa
open Go.RowKit
open FeatPlain

/-- Whatever is no cells stays as it is. -/
abbrev Oth := KeepsFrom 0
/-- A step of the iterator's own: it changes rows of features, from B0 on, but none that it has handed out. -/
structure Stp (B0 : Nat) (pre : List Rc) (A B : World) : Prop where
  chg : Chg [30] B0 A B
  oth : Oth A B
  out : ∀ x ∈ pre, ∀ r, x.1.ownBlock = some r → r < A.heap.size → B.heap[r]? = A.heap[r]?
/-- What a round may change: rows of records and their boxes. -/
abbrev Kq (B0 : Nat) := Chg [31, 24] B0
/-- What both together may change. -/
abbrev Ev (B0 : Nat) := Chg [30, 31, 24] B0

theorem oth_of_aft {A B : World} (h : Aft A B) : Oth A B := ⟨h.size, fun k _ _ hk _ => (h.block k (Array.getElem?_eq_some_iff.1 hk).1).trans hk⟩
theorem Stp.of_aft {B0 : Nat} {pre : List Rc} {A B : World} (h : Aft A B) (hB : B0 ≤ A.heap.size) : Stp B0 pre A B :=
  ⟨Chg.of_aft h hB, oth_of_aft h, fun _ _ r _ hr => h.block r hr⟩
/-- append onto the chosen features: in place, or into a new block. -/
theorem Stp.of_append {B0 : Nat} {pre : List Rc} {A B : World} {v : Value} {n : Nat} {xs : List Value} (own : A.ownsRow B0 30 2 v n xs) (hg : A.grownBy B v.ownBlock) (hB : B0 ≤ A.heap.size)
    (hd : ∀ x ∈ pre, ∀ r, x.1.ownBlock = some r → v.ownBlock ≠ some r) : Stp B0 pre A B := by
  refine ⟨Chg.of_grown hg hB (fun r hr => ?_), ⟨hg.size, fun k _ _ hk ho => (hg.block k (Array.getElem?_eq_some_iff.1 hk).1 (fun e => ?_)).trans hk⟩, fun x hx r hr hlt => hg.block r hlt (fun e => hd x hx r hr e.symm)⟩
  · obtain ⟨h1, h2⟩ := row_type own r hr
    exact ⟨h1, fun cur t h => by rw [h2 cur t h]; simp⟩
  · rcases own.2 with ⟨rfl, _⟩ | ⟨g, cap, cur, rfl, _, h3, _⟩
    · cases e
    · cases e
      rw [h3] at hk
      cases hk
      cases ho
theorem Stp.ev {B0 : Nat} {pre : List Rc} {A B : World} (h : Stp B0 pre A B) : Ev B0 A B := h.chg.mono (by simp)
theorem ev_of_kq {B0 : Nat} {A B : World} (h : Kq B0 A B) : Ev B0 A B := Chg.mono h (by simp)

/-- The blocks of the records are of the memory so far. -/
def Lo (W : World) (pre : List Rc) : Prop := ∀ x ∈ pre, ∀ r, x.1.ownBlock = some r → r < W.heap.size
theorem Lo.more {W W' : World} {pre : List Rc} (h : Lo W pre) (hs : W.heap.size ≤ W'.heap.size) : Lo W' pre := fun x hx r hr => Nat.lt_of_lt_of_le (h x hx r hr) hs
/-- No record lies in the row v. -/
def Dj (v : Value) (pre : List Rc) : Prop := ∀ x ∈ pre, ∀ r, x.1.ownBlock = some r → v.ownBlock ≠ some r
/-- The records came later than W. -/
def New (W W' : World) (new : List Rc) : Prop := ∀ x ∈ new, ∀ r, x.1.ownBlock = some r → W.heap.size ≤ r ∧ r < W'.heap.size
theorem Dj.more {W W' : World} {v : Value} {pre new : List Rc} {n : Nat} {xs : List Value} (h : Dj v pre) (own : W.ownsRow 0 30 2 v n xs) (hn : New W W' new) : Dj v (pre ++ new) := by
  intro x hx r hr e
  rcases List.mem_append.1 hx with hx | hx
  · exact h x hx r hr e
  · have := (own.lt r e).2
    have := (hn x hx r hr).1
    omega
theorem Lo.append {W W' : World} {pre new : List Rc} (h : Lo W pre) (hs : W.heap.size ≤ W'.heap.size) (hn : New W W' new) : Lo W' (pre ++ new) := by
  intro x hx r hr
  rcases List.mem_append.1 hx with hx | hx
  · exact Nat.lt_of_lt_of_le (h x hx r hr) hs
  · exact (hn x hx r hr).2
theorem New.nil (W W' : World) : New W W' [] := fun x hx => by cases hx
theorem New.trans {W W1 W2 : World} {a b : List Rc} (h : New W W1 a) (k : New W1 W2 b) (h1 : W.heap.size ≤ W1.heap.size) (h2 : W1.heap.size ≤ W2.heap.size) : New W W2 (a ++ b) := by
  intro x hx r hr
  rcases List.mem_append.1 hx with hx | hx
  · have := h x hx r hr; exact ⟨this.1, by omega⟩
  · have := k x hx r hr; exact ⟨by omega, this.2⟩
theorem New.base {W0 W W' : World} {a : List Rc} (h : New W W' a) (hs : W0.heap.size ≤ W.heap.size) : New W0 W' a := fun x hx r hr => ⟨Nat.le_trans hs (h x hx r hr).1, (h x hx r hr).2⟩

/-- Rows of features other than v stay as they are. -/
def Keep (v : Value) (W B : World) : Prop := ∀ r cur, v.ownBlock ≠ some r → W.heap[r]? = some (.cells cur 30 (0, 0)) → B.heap[r]? = some (.cells cur 30 (0, 0))
theorem Keep.refl (v : Value) (W : World) : Keep v W W := fun _ _ _ h => h
theorem Keep.trans {v : Value} {A B C : World} (h : Keep v A B) (k : Keep v B C) : Keep v A C := fun r cur hv hr => k r cur hv (h r cur hv hr)
theorem Keep.of_kq {B0 : Nat} {v : Value} {A B : World} (h : Kq B0 A B) : Keep v A B := fun r cur _ hr => h.typ r cur _ (by decide) hr
theorem Keep.of_aft {v : Value} {A B : World} (h : Aft A B) : Keep v A B := fun r _ _ hr => (h.block r (Array.getElem?_eq_some_iff.1 hr).1).trans hr
/-- append onto v, and then what keeps all rows but the new v'. -/
theorem Keep.step {n m : Nat} {A A1 B : World} {v v' : Value} (hg : A.grownBy A1 v.ownBlock) (hat : At A A1 v v' n m) (hk : Keep v' A1 B) : Keep v A B := by
  intro r cur hv hr
  have hlt : r < A.heap.size := (Array.getElem?_eq_some_iff.1 hr).1
  refine hk r cur ?_ ((hg.block r hlt (fun e => hv e.symm)).trans hr)
  rcases hat with ⟨g, cap, rfl, rfl⟩ | ⟨h1, _⟩
  · exact hv
  · rw [h1]
    intro e
    cases e
    omega

/-- Behind an append and what followed it, the row that was appended to stands again. -/
theorem back {B0 n : Nat} {A A1 B : World} {v v' : Value} {xs news : List Value} (own : A.ownsRow B0 30 2 v n xs) (hat : At A A1 v v' n 1) (own' : B.ownsRow B0 30 2 v' (n + 1) (xs ++ news)) (hk : Keep v' A1 B) : B.ownsRow B0 30 2 v n xs := by
  rcases hat with ⟨g, cap, rfl, rfl⟩ | ⟨h1, h2⟩
  · exact row_first own' own.1
  · refine ⟨own.1, ?_⟩
    rcases own.2 with h | ⟨g, cap, cur, rfl, e2, e3, e4⟩
    · exact .inl h
    · have hlt : g < A.heap.size := (Array.getElem?_eq_some_iff.1 e3).1
      exact .inr ⟨g, cap, cur, rfl, e2, hk g cur (by rw [h1]; intro e; cases e; omega) ((h2.block g hlt (by simp)).trans e3), e4⟩
end Go.Proofs.Ytallloempmmgpaa
