/-
  Plain mathematics of syllables (no Go in sight): vowels, onsets, nuclei, where syllables begin; and a slice of one-cell elements in memory ('Rw'). Conditions: as each theorem says.
-/
import Derived.Test.YtfjfgjncmliadaaDoorAlphUtf
import Derived.Laws.BitsAllLaws
namespace Go.Proofs.YtfjfgjncmliadaaDoor
open Go.RowKit
open AlphPlain

/-- THE SLICE '.slice A n c' HOLDS the elements l, each in one cell, as enc writes it. -/
structure Rw {α : Type} (enc : α → Value) (w : World) (A : Option Addr) (n c : Nat) (l : List α) : Prop where
  len : l.length = n
  le : n ≤ c
  cmax : c ≤ 9223372036854775807
  nl : A = none → c = 0
  cells : ∀ i x, l[i]? = some x → ∃ b off, A = some ⟨b, off, none⟩ ∧ w.cell? ⟨b, off + i, none⟩ = some (enc x)

theorem Rw.aft {α : Type} {enc : α → Value} {w w' : World} {A : Option Addr} {n c : Nat} {l : List α} (h : Rw enc w A n c l) (k : Aft w w') : Rw enc w' A n c l :=
  ⟨h.len, h.le, h.cmax, h.nl, fun i x hi => by
    obtain ⟨b, off, hA, h1⟩ := h.cells i x hi
    exact ⟨b, off, hA, k.cell h1⟩⟩
theorem Rw.at_ {α : Type} {enc : α → Value} {w : World} {A : Option Addr} {n c k : Nat} {l : List α} (h : Rw enc w A n c l) (hk : k < n) :
    ∃ b off x, A = some ⟨b, off, none⟩ ∧ l[k]? = some x ∧ w.cell? ⟨b, off + k, none⟩ = some (enc x) := by
  have hl : k < l.length := by have := h.len; omega
  have hi : l[k]? = some l[k] := List.getElem?_eq_getElem hl
  obtain ⟨b, off, hA, h1⟩ := h.cells k _ hi
  exact ⟨b, off, _, hA, hi, h1⟩
theorem Rw.nil {α : Type} {enc : α → Value} {w : World} : Rw enc w none 0 0 [] := ⟨rfl, Nat.le_refl _, by omega, fun _ => rfl, fun i f h => by simp at h⟩
theorem Rw.of_row {α : Type} {enc : α → Value} {w : World} {base n : Nat} {e : TypeId} {v : Value} {l : List α} (h : w.ownsRow base e 1 v n (l.map enc)) (hl : l.length = n) : ∃ A c, v = .slice A n c ∧ Rw enc w A n c l := by
  rcases h.2 with ⟨rfl, rfl⟩ | ⟨g, cap, cur, rfl, _, _, hle, hc, _⟩
  · have : l = [] := List.length_eq_zero_iff.1 hl
    subst this
    exact ⟨none, 0, rfl, Rw.nil⟩
  · refine ⟨_, _, rfl, hl, hle, by unfold maxLen at hc; omega, fun e => (by cases e), fun i x hi => ?_⟩
    have hlt : i < n := by have := (List.getElem?_eq_some_iff.1 hi).1; omega
    refine ⟨g, 0, rfl, ?_⟩
    rw [Nat.zero_add, h.cellAt _ (by omega), List.getElem?_map, hi]
    rfl
theorem map_one {α : Type} {enc : α → Value} (h : ∀ x, (enc x).oneCell' = true) (l : List α) : ∀ u ∈ l.map enc, u.oneCell' = true := by
  intro u hu
  obtain ⟨s, _, rfl⟩ := List.mem_map.1 hu
  exact h s
theorem row_from {wo wr : World} {e : TypeId} {s : Nat} {v : Value} {n : Nat} {l : List Value} (h : wr.ownsRow wo.heap.size e s v n l) : ∀ g, v.ownBlock = some g → wo.heap.size ≤ g := fun g hg => (h.lt g hg).1
theorem one_val (w : World) (v : Value) (e : TypeId) (H : Nat) (h : w.heap.size = H) : ∀ j u, ([v] : List Value)[j]? = some u → (w.alloc (.cells #[v] e)).cell? ((⟨H, 0, none⟩ : Addr).add j) = some u := by
  subst h
  intro j u hj
  match j, hj with
  | 0, hj => simp at hj; subst hj; simp [Addr.add]
  | j + 1, hj => simp at hj
theorem lit_rw {α : Type} {enc : α → Value} (w : World) (e : TypeId) (l : List α) (h : l.length ≤ 1000) : Rw enc (w.alloc (.cells (l.map enc).toArray e)) (some ⟨w.heap.size, 0, none⟩) l.length l.length l := by
  refine ⟨rfl, Nat.le_refl _, by omega, fun e => (by cases e), fun i x hi => ⟨w.heap.size, 0, rfl, ?_⟩⟩
  simp [hi]

abbrev vI (z : Int) : Value := .int .i64 z
abbrev vU (z : Int) : Value := .int .u32 z
abbrev vB (b : Bool) : Value := .bool b
def natI (l : List Nat) : List Int := l.map (fun i : Nat => (i : Int))

theorem cls_bits {ls : List Lt} (hw : ∀ l ∈ ls, (Lit.int .i32 l.1).wf = true ∧ (Lit.int .u32 l.2).wf = true) (r : Int) : 0 ≤ clsOf ls r ∧ clsOf ls r < 4294967296 := by
  unfold clsOf
  cases hh : AlphPlain.has ls r
  · simp
  · obtain ⟨l, hl, _⟩ := pos_get hh
    have h := (hw l (List.mem_of_getElem? hl)).2
    simp only [if_true, List.getD, hl, Option.getD_some]
    simp [Lit.wf, IntKind.min, IntKind.max, IntKind.bits, IntKind.signed] at h
    omega

/-- Is the rune a vowel? -/
def vowB (ls : List Lt) (r : Int) : Bool := !decide (bits .and .u32 (clsOf ls r) 1 = 0)
theorem and_one {c : Int} (h : 0 ≤ c ∧ c < 4294967296) : bits .and .u32 c 1 = 0 ∨ bits .and .u32 c 1 = 1 := by
  rw [u32_and c 1 h.1 h.2 (by omega) (by omega)]
  have : (c.toNat &&& (1 : Int).toNat) = c.toNat % 2 := Nat.and_one_is_mod _
  rw [this]
  omega

/-- Do the runes have the classes of the masks, one by one? -/
def hitB (ls : List Lt) (m r : Int) : Bool := AlphPlain.has ls r && decide (bits .and .u32 (clsOf ls r) m = m)
def fitB (ls : List Lt) : List Int → List Int → Bool
  | [], [] => true
  | m :: ms, r :: rs => hitB ls m r && fitB ls ms rs
  | _, _ => false
theorem fitB_len {ls : List Lt} : ∀ {ms rs : List Int}, ms.length ≠ rs.length → fitB ls ms rs = false
  | [], [], h => absurd rfl h
  | [], _ :: _, _ => rfl
  | _ :: _, [], _ => rfl
  | m :: ms, r :: rs, h => by
    rw [fitB, fitB_len (by simpa using h)]
    simp
theorem fitB_step {ls : List Lt} {ms rs : List Int} {k : Nat} {m r : Int} (hm : ms[k]? = some m) (hr : rs[k]? = some r) : fitB ls (ms.drop k) (rs.drop k) = (hitB ls m r && fitB ls (ms.drop (k + 1)) (rs.drop (k + 1))) := by
  rw [drop_of_get hm, drop_of_get hr]
  rfl
theorem fitB_end {ls : List Lt} {ms rs : List Int} {n : Nat} (hm : ms.length = n) (hr : rs.length = n) : fitB ls (ms.drop n) (rs.drop n) = true := by
  rw [List.drop_of_length_le (by omega), List.drop_of_length_le (by omega)]
  rfl

/-- Is it an onset? -/
def onB (ls : List Lt) (ons : List (List Int)) (rs : List Int) : Bool := decide (rs.length = 0) || ons.any (fun ms => fitB ls ms rs)
theorem onB_nil (ls : List Lt) (ons : List (List Int)) : onB ls ons [] = true := rfl

/-- The indices of the vowels, counted from i. -/
def nuc (ls : List Lt) : List Int → Nat → List Nat
  | [], _ => []
  | r :: rs, i => (if vowB ls r then [i] else []) ++ nuc ls rs (i + 1)
theorem nuc_snoc (ls : List Lt) : ∀ (rs : List Int) (r : Int) (i : Nat), nuc ls (rs ++ [r]) i = nuc ls rs i ++ if vowB ls r then [i + rs.length] else []
  | [], r, i => by simp [nuc]
  | a :: rs, r, i => by
    rw [List.cons_append, nuc, nuc, nuc_snoc ls rs r (i + 1), List.append_assoc, List.length_cons, show i + 1 + rs.length = i + (rs.length + 1) by omega]
theorem nuc_mem {ls : List Lt} : ∀ {rs : List Int} {i x : Nat}, x ∈ nuc ls rs i → i ≤ x ∧ x < i + rs.length
  | [], i, x, h => by cases h
  | r :: rs, i, x, h => by
    rw [nuc] at h
    rcases List.mem_append.1 h with h | h
    · split at h
      · simp at h; subst h; simp
      · cases h
    · have := nuc_mem h
      simp
      omega
theorem nuc_len (ls : List Lt) : ∀ (rs : List Int) (i : Nat), (nuc ls rs i).length ≤ rs.length
  | [], i => by simp [nuc]
  | r :: rs, i => by
    rw [nuc, List.length_append, List.length_cons]
    have := nuc_len ls rs (i + 1)
    split <;> simp <;> omega
theorem nuc_lt {ls : List Lt} : ∀ {rs : List Int} {i k x y : Nat}, (nuc ls rs i)[k]? = some x → (nuc ls rs i)[k + 1]? = some y → x < y
  | [], i, k, x, y, h, _ => by simp [nuc] at h
  | r :: rs, i, k, x, y, h, h' => by
    rw [nuc] at h h'
    cases hv : vowB ls r
    · simp [hv] at h h'
      exact nuc_lt h h'
    · simp [hv] at h h'
      cases k with
      | zero =>
        simp at h h'
        subst h
        have := nuc_mem (List.mem_of_getElem? h')
        omega
      | succ k =>
        simp at h h'
        exact nuc_lt h h'

/-- The first index from lo on with f, at most k further. -/
def cutAt (f : Nat → Bool) : Nat → Nat → Nat
  | lo, 0 => lo
  | lo, k + 1 => if f lo then lo else cutAt f (lo + 1) k
theorem cutAt_ge (f : Nat → Bool) : ∀ (k lo : Nat), lo ≤ cutAt f lo k
  | 0, lo => Nat.le_refl _
  | k + 1, lo => by
    rw [cutAt]
    split
    · exact Nat.le_refl _
    · have := cutAt_ge f k (lo + 1); omega
theorem cutAt_le (f : Nat → Bool) : ∀ (k lo : Nat), cutAt f lo k ≤ lo + k
  | 0, lo => Nat.le_refl _
  | k + 1, lo => by
    rw [cutAt]
    split
    · omega
    · have := cutAt_le f k (lo + 1); omega

/-- The runes from a to b. -/
def sub (rs : List Int) (a b : Nat) : List Int := (rs.drop a).take (b - a)
theorem sub_nil (rs : List Int) (a : Nat) : sub rs a a = [] := by simp [sub]
theorem sub_length {rs : List Int} {a b : Nat} (h : b ≤ rs.length) : (sub rs a b).length = b - a := by simp [sub]; omega
/-- Where, between a and b, does the longest onset begin? -/
def cut (ls : List Lt) (ons : List (List Int)) (rs : List Int) (a b : Nat) : Nat := cutAt (fun e => onB ls ons (sub rs e b)) a (b - a)
/-- The first runes of the syllables behind the first one, the nuclei given. -/
def begs (ls : List Lt) (ons : List (List Int)) (rs : List Int) : List Nat → List Nat
  | x :: y :: ns => cut ls ons rs (x + 1) y :: begs ls ons rs (y :: ns)
  | _ => []
/-- Pieces that begin at b and then at each of these. -/
def pcs (n : Nat) : Nat → List Nat → List (Nat × Nat)
  | b, [] => if b < n then [(b, n)] else []
  | b, e :: es => (b, e) :: pcs n e es
/-- The syllables, as pieces of the runes. -/
def sylP (ls : List Lt) (ons : List (List Int)) (rs : List Int) : List (Nat × Nat) := pcs rs.length 0 (begs ls ons rs (nuc ls rs 0))
theorem begs_two {ls : List Lt} {ons : List (List Int)} {rs : List Int} {ns : List Nat} {k x y : Nat} (h : ns[k]? = some x) (h' : ns[k + 1]? = some y) : begs ls ons rs (ns.drop k) = cut ls ons rs (x + 1) y :: begs ls ons rs (ns.drop (k + 1)) := by
  rw [drop_of_get h, drop_of_get h', begs]
theorem begs_one {ls : List Lt} {ons : List (List Int)} {rs : List Int} {ns : List Nat} {k : Nat} (h : ns.length ≤ k + 1) : begs ls ons rs (ns.drop k) = [] := by
  have hl : (ns.drop k).length ≤ 1 := by rw [List.length_drop]; omega
  match ns.drop k, hl with
  | [], _ => rfl
  | [_], _ => rfl
end Go.Proofs.YtfjfgjncmliadaaDoor
