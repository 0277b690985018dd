/-
  Which blocks a step leaves as they are, by their types ('Chg'); append from whatever slice. Conditions: as each theorem says.
-/
import Derived.Test.YthoppaemlandaaaDoorFeatBase
import Derived.Laws.AppendOwnNone
import Derived.RangeFuncBox
namespace Go.Proofs.YthoppaemlandaaaDoor
open Go.RowKit

/-- append onto a row of the call's own, from whatever slice. -/
theorem wpList_append_any {P : Program} {w : World} {ops : Array Oper} {rest : List Oper} {o : Oper} {a : Act} {Q : Exit → Act → World → Prop} (hgd : o.guard = none) (s x : Operand) (t : TypeId)
    (ho : o.op = .call { callee := .builtin .append, args := #[s, x], argTypes := #[t, t] })
    (base : Nat) (e : TypeId) (i : TypeInfo) (z : Value) (size bytes : Nat) (ht : P.underlying t = some (.slice e)) (hi : P.info? e = some i) (hz : i.zero = some z)
    (hsize : i.size = size) (hby : i.bytes = bytes) (hzs : z.cells.size = size) (hsz : 0 < size)
    (v : Value) (n : Nat) (xs : List Value) (hs : a.eval s = v) (hown : w.ownsRow base e size v n xs)
    (ao : Option Addr) (m c : Nat) (news : List Value) (hx : a.eval x = .slice ao m c) (hl : news.length = m * size) (hno : ao = none → m = 0 ∧ c = 0)
    (hnews : ∀ ad, ao = some ad → ∀ j u, news[j]? = some u → w.cell? (ad.add j) = some u) (h1 : ∀ u ∈ news, u.oneCell' = true)
    (h63 : n + m ≤ maxLen) (hbytes : (n + m) * bytes ≤ 140737488355328) (hbase : base ≤ w.heap.size)
    (h : ∀ v' w', w'.ownsRow base e size v' (n + m) (xs ++ news) → w.grownBy w' v.ownBlock → wpList P ops Q rest (a.put o.dst v') w') : wpList P ops Q (o :: rest) a w := by
  cases ao with
  | some ad => exact wpList_append_own w hgd s x t ho base e i z size bytes ht hi hz hsize hby hzs hsz v n xs hs hown ad m c news hx hl (hnews ad rfl) h1 h63 hbytes hbase fun v' w' a1 a2 _ => h v' w' a1 a2
  | none =>
    obtain ⟨rfl, rfl⟩ := hno rfl
    have hn : news = [] := List.length_eq_zero_iff.1 (by omega)
    subst hn
    exact wpList_append_own_none hgd s x t ho base e i size ht hi v n xs hs hown hx (h v w (by simpa using hown) (World.grownBy.refl _ _))

/-- From w to w' only blocks from B on, of the types ts, were changed; new ones may have come. -/
structure Chg (ts : List TypeId) (B : Nat) (w w' : World) : Prop where
  os : w'.os = w.os
  tape : w'.tape = w.tape
  output : w'.output = w.output
  size : w.heap.size ≤ w'.heap.size
  low : ∀ k, k < B → w'.heap[k]? = w.heap[k]?
  typ : ∀ (k : Nat) (cur : Array Value) (t : TypeId), t ∉ ts → w.heap[k]? = some (.cells cur t (0, 0)) → w'.heap[k]? = some (.cells cur t (0, 0))

theorem Chg.refl (ts : List TypeId) (B : Nat) (w : World) : Chg ts B w w := ⟨rfl, rfl, rfl, Nat.le_refl _, fun _ _ => rfl, fun _ _ _ _ h => h⟩
theorem Chg.trans {ts : List TypeId} {B : Nat} {a b c : World} (h : Chg ts B a b) (k : Chg ts B b c) : Chg ts B a c :=
  ⟨k.os.trans h.os, k.tape.trans h.tape, k.output.trans h.output, Nat.le_trans h.size k.size, fun i hi => (k.low i hi).trans (h.low i hi), fun i cur t ht hi => k.typ i cur t ht (h.typ i cur t ht hi)⟩
theorem Chg.mono {ts ts' : List TypeId} {B : Nat} {a b : World} (h : Chg ts B a b) (hs : ∀ t, t ∈ ts → t ∈ ts') : Chg ts' B a b :=
  ⟨h.os, h.tape, h.output, h.size, h.low, fun i cur t ht hi => h.typ i cur t (fun e => ht (hs t e)) hi⟩
theorem Chg.of_aft {ts : List TypeId} {B : Nat} {w w' : World} (h : Aft w w') (hB : B ≤ w.heap.size) : Chg ts B w w' :=
  ⟨h.os, h.tape, h.output, h.size, fun k hk => h.block k (Nat.lt_of_lt_of_le hk hB), fun k _ _ _ hk => (h.block k (Array.getElem?_eq_some_iff.1 hk).1).trans hk⟩
theorem Chg.of_grown {ts : List TypeId} {B : Nat} {w w' : World} {row : Option Nat} (h : w.grownBy w' row) (hB : B ≤ w.heap.size) (hr : ∀ r, row = some r → B ≤ r ∧ ∀ cur t, w.heap[r]? = some (.cells cur t (0, 0)) → t ∈ ts) : Chg ts B w w' :=
  ⟨h.os, h.tape, h.output, h.size, fun k hk => h.block k (by omega) (fun e => by have := (hr k e.symm).1; omega), fun k cur t ht hk => (h.block k (Array.getElem?_eq_some_iff.1 hk).1 (fun e => ht ((hr k e.symm).2 cur t hk))).trans hk⟩
theorem Chg.box {ts : List TypeId} {B : Nat} {w w' : World} (h : Chg ts B w w') {b : Nat} {t : TypeId} {v : Value} (hb : Boxed w b t v) (ht : t ∉ ts) : Boxed w' b t v := h.typ b _ t ht hb
theorem Chg.row {ts : List TypeId} {B : Nat} {w w' : World} (h : Chg ts B w w') {base : Nat} {e : TypeId} {size : Nat} {v : Value} {n : Nat} {xs : List Value} (hr : w.ownsRow base e size v n xs) (ht : e ∉ ts) : w'.ownsRow base e size v n xs := by
  refine ⟨hr.1, ?_⟩
  rcases hr.2 with k | ⟨g, cap, cur, e1, e2, e3, e4⟩
  · exact .inl k
  · exact .inr ⟨g, cap, cur, e1, e2, h.typ g cur e ht e3, e4⟩
theorem Chg.aft0 {ts : List TypeId} {B : Nat} {w0 w w' : World} (h : Chg ts B w w') (k : Aft w0 w) (hB : w0.heap.size ≤ B) : Aft w0 w' :=
  ⟨h.os.trans k.os, h.tape.trans k.tape, h.output.trans k.output, Nat.le_trans k.size h.size, fun i hi => (h.low i (Nat.lt_of_lt_of_le hi hB)).trans (k.block i hi)⟩
theorem row_type {w : World} {base : Nat} {e : TypeId} {size : Nat} {v : Value} {n : Nat} {xs : List Value} (hr : w.ownsRow base e size v n xs) : ∀ r, v.ownBlock = some r → base ≤ r ∧ ∀ cur t, w.heap[r]? = some (.cells cur t (0, 0)) → t = e := by
  intro r hv
  rcases hr.2 with ⟨rfl, _⟩ | ⟨g, cap, cur, rfl, hb, hg, _⟩
  · cases hv
  · cases hv
    refine ⟨hb, fun cur' t h => ?_⟩
    rw [hg] at h
    cases h
    rfl
theorem row_base {w : World} {base base' : Nat} {e : TypeId} {size : Nat} {v : Value} {n : Nat} {xs : List Value} (hr : w.ownsRow base e size v n xs) (hb : base' ≤ base) : w.ownsRow base' e size v n xs := by
  refine ⟨hr.1, ?_⟩
  rcases hr.2 with k | ⟨g, cap, cur, e1, e2, e3⟩
  · exact .inl k
  · exact .inr ⟨g, cap, cur, e1, Nat.le_trans hb e2, e3⟩
theorem Chg.set {B : Nat} {w : World} {b : Nat} {t : TypeId} {v : Value} (h : Boxed w b t v) (u : Value) (hB : B ≤ b) (hw : B ≤ w.heap.size) : Chg [t] B w (w.setCell ⟨b, 0, none⟩ u) :=
  Chg.of_grown (grownBy_setCell' w b u) hw (fun r e => by
    cases e
    refine ⟨hB, fun cur t' h' => ?_⟩
    rw [show w.heap[b]? = _ from h] at h'
    cases h'
    exact List.mem_singleton.2 rfl)

end Go.Proofs.YthoppaemlandaaaDoor
