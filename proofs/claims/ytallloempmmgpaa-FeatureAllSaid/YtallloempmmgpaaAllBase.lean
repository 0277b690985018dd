/-
  How slices of dimensions lie in memory: those that came in ('Dd') and those that the program made ('Di'); slices of records ('Rec', 'Recs'). Conditions: as each theorem says.
-/
import Derived.Test.YtallloempmmgpaaAllPlain
import Derived.Test.YtallloempmmgpaaChg
namespace Go.Proofs.Ytallloempmmgpaa
open Go.RowKit
open FeatPlain

/-- THE SLICE '.slice A n c' HOLDS THE DIMENSIONS ds. -/
structure Dd (w : World) (A : Option Addr) (n c : Nat) (ds : List Dm) : Prop where
  len : ds.length = n
  le : n ≤ c
  max : n * 40 ≤ 281474976710656
  cmax : c ≤ 9223372036854775807
  nl : A = none → c = 0
  cells : ∀ i d, ds[i]? = some d → ∃ b off B m e, A = some ⟨b, off, none⟩ ∧ w.cell? ⟨b, off + i * 2, none⟩ = some (.string d.1) ∧ w.cell? ⟨b, off + i * 2 + 1, none⟩ = some (.slice B m e) ∧ Ss w B m e d.2
  wf : ∀ d ∈ ds, d.1.size ≤ maxLen ∧ ∀ s ∈ d.2, s.size ≤ maxLen
theorem Dd.aft {w w' : World} {A : Option Addr} {n c : Nat} {ds : List Dm} (h : Dd w A n c ds) (k : Aft w w') : Dd w' A n c ds :=
  ⟨h.len, h.le, h.max, h.cmax, h.nl, fun i d hi => by
    obtain ⟨b, off, B, m, e, hA, h1, h2, h3⟩ := h.cells i d hi
    exact ⟨b, off, B, m, e, hA, k.cell h1, k.cell h2, h3.aft k⟩, h.wf⟩
theorem Dd.at_ {w : World} {A : Option Addr} {n c k : Nat} {ds : List Dm} (h : Dd w A n c ds) (hk : k < n) :
    ∃ b off B m e d, A = some ⟨b, off, none⟩ ∧ ds[k]? = some d ∧ w.cell? ⟨b, off + k * 2, none⟩ = some (.string d.1) ∧ w.cell? ⟨b, off + k * 2 + 1, none⟩ = some (.slice B m e) ∧ Ss w B m e d.2 := by
  have hl : k < ds.length := by have := h.len; omega
  have hi : ds[k]? = some ds[k] := List.getElem?_eq_getElem hl
  obtain ⟨b, off, B, m, e, h1, h2, h3, h4⟩ := h.cells k _ hi
  exact ⟨b, off, B, m, e, _, h1, hi, h2, h3, h4⟩

theorem cell_of_block {w : World} {b : Nat} {cur : Array Value} {t : TypeId} {fz : Nat × Nat} (h : w.heap[b]? = some (.cells cur t fz)) (o : Nat) : w.cell? ⟨b, o, none⟩ = cur[o]? := by
  simp [World.cell?, h]

/-- The value v is a slice of the strings ss in a block of its own. -/
def Sr (w : World) (v : Value) (ss : List ByteArray) : Prop := w.ownsRow 0 9 1 v ss.length (ss.map Value.string) ∧ ss.length ≤ 8
theorem Sr.chg {ts : List TypeId} {B : Nat} {w w' : World} {v : Value} {ss : List ByteArray} (h : Sr w v ss) (k : Chg ts B w w') (ht : 9 ∉ ts) : Sr w' v ss := ⟨k.row h.1 ht, h.2⟩

/-- The slice '.slice A n c' holds the dimensions ds, in blocks that are known by their types. -/
structure Di (w : World) (A : Option Addr) (n c : Nat) (ds : List Dm) : Prop where
  len : ds.length = n
  le : n ≤ c
  max : n ≤ 4
  cmax : c ≤ 9223372036854775807
  nl : A = none → c = 0
  row : ds ≠ [] → ∃ b off cur, A = some ⟨b, off, none⟩ ∧ w.heap[b]? = some (.cells cur 40 (0, 0)) ∧ ∀ i d, ds[i]? = some d → cur[off + i * 2]? = some (.string d.1) ∧ ∃ v, cur[off + i * 2 + 1]? = some v ∧ Sr w v d.2
theorem Di.chg {ts : List TypeId} {B : Nat} {w w' : World} {A : Option Addr} {n c : Nat} {ds : List Dm} (h : Di w A n c ds) (k : Chg ts B w w') (h1 : 40 ∉ ts) (h2 : 9 ∉ ts) : Di w' A n c ds :=
  ⟨h.len, h.le, h.max, h.cmax, h.nl, fun hne => by
    obtain ⟨b, off, cur, hA, hb, hr⟩ := h.row hne
    exact ⟨b, off, cur, hA, k.typ b cur _ h1 hb, fun i d hi => by
      obtain ⟨a1, v, a2, a3⟩ := hr i d hi
      exact ⟨a1, v, a2, a3.chg k h2⟩⟩⟩
theorem Di.head {w : World} {A : Option Addr} {n c : Nat} {d : Dm} {ds : List Dm} (h : Di w A n c (d :: ds)) :
    ∃ b off v, A = some ⟨b, off, none⟩ ∧ w.cell? ⟨b, off, none⟩ = some (.string d.1) ∧ w.cell? ⟨b, off + 1, none⟩ = some v ∧ Sr w v d.2 := by
  obtain ⟨b, off, cur, hA, hb, hr⟩ := h.row (by simp)
  obtain ⟨a1, v, a2, a3⟩ := hr 0 d rfl
  refine ⟨b, off, v, hA, ?_, ?_, a3⟩
  · rw [cell_of_block hb]; simpa using a1
  · rw [cell_of_block hb]; simpa using a2
theorem Di.cut {w : World} {b off m c : Nat} {d : Dm} {ds : List Dm} (h : Di w (some ⟨b, off, none⟩) (m + 1) c (d :: ds)) :
    Di w (if c = 1 then some ⟨b, off, none⟩ else some ⟨b, off + 2, none⟩) m (c - 1) ds := by
  have hl := h.len
  have hle := h.le
  have hm := h.max
  have hc := h.cmax
  simp at hl
  split
  · refine ⟨hl, by omega, by omega, by omega, fun e => (by cases e), fun hne => ?_⟩
    have : ds.length = 0 := by omega
    exact absurd (List.length_eq_zero_iff.1 this) hne
  · refine ⟨hl, by omega, by omega, by omega, fun e => (by cases e), fun _ => ?_⟩
    obtain ⟨b', off', cur, hA, hb, hr⟩ := h.row (by simp)
    cases hA
    refine ⟨b, off + 2, cur, rfl, hb, fun i x hi => ?_⟩
    have := hr (i + 1) x (by simpa using hi)
    rw [show off + (i + 1) * 2 = off + 2 + i * 2 from by omega] at this
    exact this

/-- A record as a value, with the features it holds. -/
abbrev Rc := Value × List Ft
def Rec (w : World) (x : Rc) : Prop := ∃ A n c, x.1 = .slice A n c ∧ Sl w A n c x.2 ∧ n ≤ 4 ∧ ∀ r, x.1.ownBlock = some r → ∃ cur, w.heap[r]? = some (.cells cur 30 (0, 0))
theorem Rec.blk {w w' : World} {x : Rc} (h : Rec w x) (hk : ∀ r cur, x.1.ownBlock = some r → w.heap[r]? = some (.cells cur 30 (0, 0)) → w'.heap[r]? = w.heap[r]?) : Rec w' x := by
  obtain ⟨A, n, c, e, s, hn, hb⟩ := h
  refine ⟨A, n, c, e, s.kept (fun b off hA o => ?_), hn, fun r hr => ?_⟩
  · obtain ⟨cur, hc⟩ := hb b (by rw [e, hA]; rfl)
    exact World.cell?_of_block (hk b cur (by rw [e, hA]; rfl) hc)
  · obtain ⟨cur, hc⟩ := hb r hr
    exact ⟨cur, (hk r cur hr hc).trans hc⟩
theorem Rec.aft {w w' : World} {x : Rc} (h : Rec w x) (k : Aft w w') : Rec w' x := h.blk (fun r _ _ hc => k.block r (Array.getElem?_eq_some_iff.1 hc).1)
theorem Rec.own {w w' : World} {x : Rc} {row : Option Nat} (h : Rec w x) (hg : w.grownBy w' row) (hr : ∀ r, row = some r → ∃ o : Obj, w.heap[r]? = some o ∧ o.isCells = false) : Rec w' x :=
  h.blk (fun r _ _ hc => hg.block r (Array.getElem?_eq_some_iff.1 hc).1 (fun e => by
    obtain ⟨o, ho, hn⟩ := hr r e.symm
    rw [hc] at ho
    cases ho
    cases hn))
theorem Rec.chg {ts : List TypeId} {B : Nat} {w w' : World} {x : Rc} (h : Rec w x) (k : Chg ts B w w') (ht : 30 ∉ ts) : Rec w' x := h.blk (fun r cur _ hc => (k.typ r cur _ ht hc).trans hc.symm)
end Go.Proofs.Ytallloempmmgpaa
