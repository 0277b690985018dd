/-
  clone returns a lexeme that says the same, with features of its own. Condition: the lexeme's features lie where it says, and are no more than an argument can hold.
-/
import Derived.Test.YtpkhoklahcgcoaaDoorLexBase
import Derived.Test.YtpkhoklahcgcoaaDoorFeatTab
namespace Go.Proofs.YtpkhoklahcgcoaaDoor
open Go.RowKit
open FeatPlain

/-- Block p holds the lexeme. -/
def BoxL (w : World) (p : Nat) (x : Lx) : Prop := w.heap[p]? = some (.cells #[.string x.id, .string x.cat, .string x.stem, .string x.par, .slice x.fa x.fn x.fc] 24 (0, 0))
theorem BoxL.aft {w w' : World} {p : Nat} {x : Lx} (h : BoxL w p x) (k : Aft w w') : BoxL w' p x := (Below.block k p (Array.getElem?_eq_some_iff.1 h).1).trans h
theorem BoxL.new (w : World) (x : Lx) : BoxL (w.alloc (.cells #[.string x.id, .string x.cat, .string x.stem, .string x.par, .slice x.fa x.fn x.fc] 24)) w.heap.size x := World.alloc_heap_new _ _
theorem BoxL.five {w : World} {p : Nat} {x : Lx} (h : BoxL w p x) : Five w p 0 x := by
  have h' : w.heap[p]? = _ := h
  refine ⟨?_, ?_, ?_, ?_, ?_⟩ <;> simp [World.cell?, h']
theorem BoxL.frozen {w : World} {p : Nat} {x : Lx} (h : BoxL w p x) (j : Nat) : w.frozen? ⟨p, j, none⟩ = false := by
  have h' : w.heap[p]? = _ := h
  simp [World.frozen?, h']

def zeroL : Lx := ⟨⟨#[]⟩, ⟨#[]⟩, ⟨#[]⟩, ⟨#[]⟩, none, 0, 0, []⟩

/-- A lexeme whose features lie in a block of their own. -/
structure Lc (w : World) (x : Lx) : Prop where
  own : w.ownsRow 0 37 2 (.slice x.fa x.fn x.fc) x.fn (flat x.fs)
  len : x.fs.length = x.fn
  max : x.fn * 32 ≤ 140737488355328
  wid : x.id.size ≤ maxLen
  wcat : x.cat.size ≤ maxLen
  wstem : x.stem.size ≤ maxLen
  wpar : x.par.size ≤ maxLen
theorem Lc.lw {w : World} {x : Lx} (h : Lc w x) : Lw w x := by
  obtain ⟨a, c, e, s⟩ := Sl.of_row h.own h.len (by have := h.max; omega)
  obtain ⟨e1, e2, e3⟩ := Value.slice.inj e
  exact ⟨by rw [e1, e3]; exact s, h.wid, h.wcat, h.wstem, h.wpar⟩
theorem Lc.chg {ts : List TypeId} {B : Nat} {w w' : World} {x : Lx} (h : Lc w x) (k : Chg ts B w w') (ht : 37 ∉ ts) : Lc w' x := ⟨k.row h.own ht, h.len, h.max, h.wid, h.wcat, h.wstem, h.wpar⟩
theorem Lc.aft {w w' : World} {x : Lx} (h : Lc w x) (k : Aft w w') : Lc w' x := h.chg (Chg.of_aft (ts := []) (B := 0) k (Nat.zero_le _)) (by simp)

/-- What clone leaves. -/
def ClonePost (w : World) (x : Lx) (e : Ending) (w' : World) : Prop := ∃ y : Lx, e = .returned (.agg #[.string y.id, .string y.cat, .string y.stem, .string y.par, .slice y.fa y.fn y.fc]) ∧ y.say = x.say ∧ Lc w' y ∧ Aft w w'

set_option maxRecDepth 100000 in
set_option maxHeartbeats 1600000 in
theorem cloneL_any (x : Lx) (w : World) (hx : Lw w x) (hb : x.fn * 32 ≤ 140737488355328) :
    Calls Tryd.prog 52 #[.agg #[.string x.id, .string x.cat, .string x.stem, .string x.par, .slice x.fa x.fn x.fc]] w (ClonePost w x) := by
  obtain ⟨id, cat, stem, par, fa, fn, fc, fs⟩ := x
  have b0 := BoxL.new w ⟨id, cat, stem, par, fa, fn, fc, fs⟩
  have B0 := (Aft.refl (w.alloc (.cells #[.string id, .string cat, .string stem, .string par, .slice fa fn fc] 24))).alloc (.cells #[.string ⟨#[]⟩, .string ⟨#[]⟩, .string ⟨#[]⟩, .string ⟨#[]⟩, .slice none 0 0] 24)
  have b1 := BoxL.new (w.alloc (.cells #[.string id, .string cat, .string stem, .string par, .slice fa fn fc] 24)) zeroL
  have b0' := b0.aft B0
  have A0 : Aft w _ := ((Aft.refl w).alloc _).trans B0
  have hc := clone_any fa fn fc fs _ (hx.fts.aft A0) hb
  have HC := Lib.hid hc
  have HX := Lib.hid hx
  clear hc
  change Calls Tryd.prog _ #[.agg #[.string id, .string cat, .string stem, .string par, .slice fa fn fc]] w _
  go_enter Tryd.func52, Tryd.ntmps52
  have f0 := b0'.five
  obtain ⟨k0, k1, k2, k3, k4⟩ := f0
  dsimp only at k0 k1 k2 k3 k4
  go_wp2_with fail
  refine HC.out.mono ?_
  rintro e w1 ⟨v, rfl, own1, A1⟩
  clear HC k0 k1 k2 k3 k4
  have b0w := b0'.aft A1
  have b1w := b1.aft A1
  rw [World.size_alloc] at b1w
  have AA := A0.trans A1
  rw [World.size_alloc, World.size_alloc] at own1
  have hsz := AA.size
  obtain ⟨c0, c1, c2, c3, c4⟩ := b0w.five
  obtain ⟨d0, d1, d2, d3, d4⟩ := b1w.five
  have f4 := b0w.frozen 4
  have g0 := b1w.frozen 0; have g1 := b1w.frozen 1; have g2 := b1w.frozen 2; have g3 := b1w.frozen 3; have g4 := b1w.frozen 4
  dsimp only [zeroL, Nat.zero_add] at c0 c1 c2 c3 c4 d0 d1 d2 d3 d4
  clear b0 b1 b0' B0 A0 b0w b1w
  have OWN := Lib.hid own1
  obtain ⟨va, vc, rfl, _⟩ := Sl.of_row own1 hx.fts.len hx.fts.max
  clear own1
  go_wp2
  try simp only [Exit.inBlock, Exit.then]
  refine bodyPost_ret (v := .agg #[.string id, .string cat, .string stem, .string par, .slice va fn vc]) (by simp [results, go_sem, d0, d1, d2, d3, d4]) rfl ?_
  have o := ownsRow_setCell_below (ownsRow_setCell_below (ownsRow_setCell_below (ownsRow_setCell_below (ownsRow_setCell_below (ownsRow_setCell_below OWN.out (a := ⟨w.heap.size, 4, none⟩) (show w.heap.size < _ by omega) (.slice va fn vc))
    (a := ⟨w.heap.size + 1, 0, none⟩) (show w.heap.size + 1 < _ by omega) (.string id)) (a := ⟨w.heap.size + 1, 1, none⟩) (show w.heap.size + 1 < _ by omega) (.string cat)) (a := ⟨w.heap.size + 1, 2, none⟩) (show w.heap.size + 1 < _ by omega) (.string stem))
    (a := ⟨w.heap.size + 1, 3, none⟩) (show w.heap.size + 1 < _ by omega) (.string par)) (a := ⟨w.heap.size + 1, 4, none⟩) (show w.heap.size + 1 < _ by omega) (.slice va fn vc)
  exact ⟨⟨id, cat, stem, par, va, fn, vc, fs⟩, rfl, rfl, ⟨row_base o (Nat.zero_le _), HX.out.fts.len, hb, HX.out.wid, HX.out.wcat, HX.out.wstem, HX.out.wpar⟩, (((((AA.setCell (p := ⟨w.heap.size, 4, none⟩) (Nat.le_refl _) _).setCell (p := ⟨w.heap.size + 1, 0, none⟩) (Nat.le_succ _) _).setCell (p := ⟨w.heap.size + 1, 1, none⟩) (Nat.le_succ _) _).setCell (p := ⟨w.heap.size + 1, 2, none⟩) (Nat.le_succ _) _).setCell (p := ⟨w.heap.size + 1, 3, none⟩) (Nat.le_succ _) _).setCell (p := ⟨w.heap.size + 1, 4, none⟩) (Nat.le_succ _) _⟩
end Go.Proofs.YtpkhoklahcgcoaaDoor
