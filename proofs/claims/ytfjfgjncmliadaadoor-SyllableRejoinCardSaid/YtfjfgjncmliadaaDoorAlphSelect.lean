/-
  Select returns the runes of the letters that have all classes of a mask, in order; the reference's Select; Runes tells whether two lists of runes are equal. Condition: the slices hold the letters and the runes; there are at most 70 letters.
-/
import Derived.Test.YtfjfgjncmliadaaDoorAlphRef
import Derived.Laws.Cover4
namespace Go.Proofs.YtfjfgjncmliadaaDoor
open Go.RowKit
open AlphPlain

/-- THE SLICE '.slice A n c' HOLDS THE RUNES rs. -/
structure Rr (w : World) (A : Option Addr) (n c : Nat) (rs : List Int) : Prop where
  len : rs.length = n
  le : n ≤ c
  nl : A = none → c = 0
  cells : ∀ i r, rs[i]? = some r → ∃ b off, A = some ⟨b, off, none⟩ ∧ w.cell? ⟨b, off + i, none⟩ = some (.int .i32 r)

theorem Rr.aft {w w' : World} {A : Option Addr} {n c : Nat} {rs : List Int} (h : Rr w A n c rs) (k : Aft w w') : Rr w' A n c rs :=
  ⟨h.len, h.le, h.nl, fun i f hi => by
    obtain ⟨b, off, hA, h1⟩ := h.cells i f hi
    exact ⟨b, off, hA, k.cell h1⟩⟩

def runV (l : List Int) : List Value := l.map (Value.int .i32)
theorem runV_append (a b : List Int) : runV (a ++ b) = runV a ++ runV b := List.map_append
theorem runV_one (l : List Int) : ∀ u ∈ runV l, u.oneCell' = true := by
  intro u hu
  obtain ⟨s, _, rfl⟩ := List.mem_map.1 hu
  rfl

theorem Rr.of_row {w : World} {base n : Nat} {v : Value} {rs : List Int} (h : w.ownsRow base 21 1 v n (runV rs)) (hl : rs.length = n) : ∃ A c, v = .slice A n c ∧ Rr w A n c rs := by
  rcases h.2 with ⟨rfl, rfl⟩ | ⟨g, cap, cur, rfl, _, _, hle, _, _⟩
  · have : rs = [] := List.length_eq_zero_iff.1 hl
    subst this
    exact ⟨none, 0, rfl, ⟨rfl, Nat.le_refl _, fun _ => rfl, fun i f h => by simp at h⟩⟩
  · refine ⟨_, _, rfl, ⟨hl, hle, fun e => (by cases e), fun i f hi => ?_⟩⟩
    have hlt : i < n := by have := (List.getElem?_eq_some_iff.1 hi).1; omega
    refine ⟨g, 0, rfl, ?_⟩
    rw [Nat.zero_add, h.cellAt _ (by omega)]
    simp [runV, hi]

theorem Rr.conv {w : World} {A : Option Addr} {n c : Nat} {rs : List Int} (h : Rr w A n c rs) : (convert 40 9 (.slice A n c)).run Tryd.prog w = .ok (.string (runesBytes rs)) w := by
  cases A with
  | none =>
    have h0 : rs = [] := List.length_eq_zero_iff.1 (by have := h.nl rfl; have := h.le; have := h.len; omega)
    subst h0
    exact run_convert_runes_nil w _ _ 21 n c Tryd.underlying40 Tryd.underlying21 Tryd.underlying9
  | some a =>
    rw [run_convert_runes w _ _ 21 a n c rs (by rw [h.len]; exact Nat.le_refl _) Tryd.underlying40 Tryd.underlying21 Tryd.underlying9 (fun j hj => ?_), List.take_of_length_le (by rw [h.len]; exact Nat.le_refl _)]
    obtain ⟨b, off, hA, h1⟩ := h.cells j _ (List.getElem?_eq_getElem hj)
    cases hA
    rw [Addr.add_lit, h1]
    simp [List.getD, List.getElem?_eq_getElem hj]

/-- Has the letter all classes of the mask? -/
def hasM (k : Int) (l : Lt) : Bool := decide (bits .and .u32 l.2 k = k)
def selL (ls : List Lt) (k : Int) : List Int := (ls.filter (hasM k)).map (·.1)

theorem selL_step {ls : List Lt} {out : List Int} {k : Int} {j : Nat} {l : Lt} (h : selL ls k = out ++ selL (ls.drop j) k) (hl : ls[j]? = some l) : selL ls k = (out ++ if hasM k l then [l.1] else []) ++ selL (ls.drop (j + 1)) k := by
  rw [h, drop_of_get hl]
  unfold selL
  rw [List.filter_cons]
  cases hasM k l <;> simp

theorem refHas_any (a k : Int) (w : World) : Calls Tryd.prog 54 #[.int .u32 a, .int .u32 k] w (fun e w' => e = .returned (.bool (decide (bits .and .u32 a k = k))) ∧ w = w') := by
  by_cases h : bits .and .u32 a k = k <;>
  · go_enter Tryd.func54, Tryd.ntmps54
    go_wp2
    go_ret
    exact ⟨by simp [h], rfl⟩

theorem Tryd.infoR : (Tryd.prog.info? 21).map (fun i => (i.zero, i.size, i.bytes)) = some (some (.int .i32 0), 1, 4) := by kernel_rfl
theorem one_run2 (w : World) (s : Int) (H : Nat) (h : w.heap.size = H) : ∀ j u, (runV [s])[j]? = some u → (w.alloc (.cells #[.int .i32 s] 21)).cell? ((⟨H, 0, none⟩ : Addr).add j) = some u := by
  subst h
  intro j u hj
  match j, hj with
  | 0, hj => simp [runV] at hj; subst hj; simp [Addr.add]
  | j + 1, hj => simp [runV] at hj
theorem rowR_lt {wo wr : World} {v : Value} {n : Nat} {l : List Value} (h : wr.ownsRow wo.heap.size 21 1 v n l) : ∀ g, v.ownBlock = some g → wo.heap.size ≤ g := fun g hg => (h.lt g hg).1

def RrPost (w : World) (l : List Int) (e : Ending) (w' : World) : Prop := (∃ A n c, e = .returned (.slice A n c) ∧ Rr w' A n c l) ∧ Aft w w'

end Go.Proofs.YtfjfgjncmliadaaDoor
