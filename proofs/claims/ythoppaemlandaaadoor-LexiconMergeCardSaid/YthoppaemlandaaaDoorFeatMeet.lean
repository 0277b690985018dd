/-
  Meet, of the program and of the reference, returns the features that both lists have, each as it looks for them. Condition: the slices hold the features, and the first one is no longer than an argument can be.
-/
import Derived.Test.YthoppaemlandaaaDoorFeatIndex
import Derived.Test.YthoppaemlandaaaDoorFeatUnify
import Derived.Deep.DeepMust
namespace Go.Proofs.YthoppaemlandaaaDoor
open Go.RowKit
open FeatPlain

def blk (A : Option Addr) : Option Nat := A.map (·.block)

def SkipPost2 (w : World) (A : Option Addr) (l : List Ft) (e : Ending) (w' : World) : Prop := (∃ A' n' c', e = .returned (.slice A' n' c') ∧ Sl w A' n' c' l ∧ blk A' = blk A) ∧ w = w'

theorem blk_cut (b off c : Nat) : blk (if c = 1 then some ⟨b, off, none⟩ else some ⟨b, off + 2, none⟩) = blk (some ⟨b, off, none⟩) := by split <;> rfl

/-- What lies in blocks below base stays where only later rows have grown. -/
theorem Sl.grownOld {w w' : World} {A : Option Addr} {n c base : Nat} {fs : List Ft} {row : Option Nat} (h : Sl w A n c fs) (hg : w.grownBy w' row) (hr : ∀ g, row = some g → base ≤ g) (hb : ∀ b, blk A = some b → 0 < n → b < base) : Sl w' A n c fs :=
  ⟨h.len, h.le, h.max, h.cmax, h.nl, fun i f hi => by
    obtain ⟨b, off, hA, h1, h2⟩ := h.cells i f hi
    have hn : 0 < n := by have := (List.getElem?_eq_some_iff.1 hi).1; have := h.len; omega
    have hlt := hb b (by rw [hA]; rfl) hn
    have hbw : b < w.heap.size := World.block_lt_of_cell? w _ h1
    have hs := hg.block b hbw (fun e => by have := hr b e.symm; omega)
    exact ⟨b, off, hA, (World.cell?_of_block (w := w) hs).trans h1, (World.cell?_of_block (w := w) hs).trans h2⟩⟩

theorem Sl.old {w : World} {A : Option Addr} {n c : Nat} {fs : List Ft} (h : Sl w A n c fs) : ∀ b, blk A = some b → 0 < n → b < w.heap.size := by
  intro b hb hn
  obtain ⟨b', off', f, hA, _, h1, _⟩ := h.at_ hn
  rw [hA] at hb
  simp [blk] at hb
  subst hb
  exact World.block_lt_of_cell? w _ h1

/-- A slice that the call has built. -/
theorem Sl.of_row {w : World} {base n : Nat} {v : Value} {fs : List Ft} (h : w.ownsRow base 57 2 v n (flat fs)) (hl : fs.length = n) (hm : n * 32 ≤ 281474976710656) : ∃ A c, v = .slice A n c ∧ Sl w A n c fs := by
  rcases h.2 with ⟨rfl, rfl⟩ | ⟨g, cap, cur, rfl, _, _, hle, _, _⟩
  · have : fs = [] := List.length_eq_zero_iff.1 hl
    subst this
    exact ⟨none, 0, rfl, Sl.nil (by omega) (fun _ => rfl)⟩
  · exact ⟨_, _, rfl, Sl.of_own h hl hle hm⟩

def SlPost (w : World) (l : List Ft) (e : Ending) (w' : World) : Prop := (∃ A n c, e = .returned (.slice A n c) ∧ Sl w' A n c l) ∧ Aft w w'

theorem meet_step_nil {xs ys ys' out : List Ft} {k : Nat} {f : Ft} (h : meet xs ys = out ++ meet (xs.drop k) ys') (hf : xs[k]? = some f) (hs : skip f.1 ys' = []) : meet xs ys = out ++ meet (xs.drop (k + 1)) [] := by
  rw [h, drop_of_get hf, meet, hs]
theorem meet_step_eq {xs ys ys' out l : List Ft} {k : Nat} {f g : Ft} (h : meet xs ys = out ++ meet (xs.drop k) ys') (hf : xs[k]? = some f) (hs : skip f.1 ys' = g :: l) (e : g = f) : meet xs ys = (out ++ [f]) ++ meet (xs.drop (k + 1)) (g :: l) := by
  rw [h, drop_of_get hf, meet, hs]; simp [e]
theorem meet_step_ne {xs ys ys' out l : List Ft} {k : Nat} {f g : Ft} (h : meet xs ys = out ++ meet (xs.drop k) ys') (hf : xs[k]? = some f) (hs : skip f.1 ys' = g :: l) (e : ¬ g = f) : meet xs ys = out ++ meet (xs.drop (k + 1)) (g :: l) := by
  rw [h, drop_of_get hf, meet, hs]; simp [e]

theorem one_cells2 (w : World) (f : Ft) (H : Nat) (h : w.heap.size = H) : ∀ j u, (flat [f])[j]? = some u → (w.alloc (.cells #[.string f.1, .string f.2] 57)).cell? ((⟨H, 0, none⟩ : Addr).add j) = some u := by
  subst h
  exact one_cells w f

structure MRel (w : World) (xs ys : List Ft) (n : Nat) (v1 v5 i : Value) (wr : World) (k : Nat) (B : Option Addr) (m d : Nat) (ys' out : List Ft) : Prop where
  hk : k ≤ n
  ei : i = .int .i64 (k : Nat)
  e1 : v1 = .slice B m d
  hb : Sl wr B m d ys'
  ob : ∀ b, blk B = some b → 0 < m → b < w.heap.size
  own : wr.ownsRow w.heap.size 57 2 v5 out.length (flat out)
  le : out.length ≤ k
  eq : meet xs ys = out ++ meet (xs.drop k) ys'
  aft : Aft w wr

def MRelEx (w : World) (xs ys : List Ft) (n : Nat) (v1 v5 i : Value) (wr : World) : Prop := ∃ k B m d ys' out, MRel w xs ys n v1 v5 i wr k B m d ys' out

theorem row_lt {w wr : World} {v : Value} {n : Nat} {l : List Value} (h : wr.ownsRow w.heap.size 57 2 v n l) : ∀ g, v.ownBlock = some g → w.heap.size ≤ g := fun g hg => (h.lt g hg).1

end Go.Proofs.YthoppaemlandaaaDoor
