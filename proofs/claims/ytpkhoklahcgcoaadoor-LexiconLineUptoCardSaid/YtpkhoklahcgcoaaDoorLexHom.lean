/-
  Homonyms returns the IDs of the lexemes of each stem that at least two lexemes have, in the order of their first members. Condition: the slice holds the lexemes, at most 2^32 of them.
-/
import Derived.Test.YtpkhoklahcgcoaaDoorLexCat
namespace Go.Proofs.YtpkhoklahcgcoaaDoor
open Go.RowKit Go.Maps Go.WideMaps
open FeatPlain

/-- The groups of the rest l, those of the stems in gone left out. -/
def homG (xs : List Lx) : List Lx → List ByteArray → List (List ByteArray)
  | [], _ => []
  | x :: l, gone => if inB gone x.stem || decide ((grp xs x.stem).length < 2) then homG xs l gone else (grp xs x.stem).map Lx.id :: homG xs l (gone ++ [x.stem])
theorem homG_skip {xs l : List Lx} {gone : List ByteArray} {x : Lx} (h : (inB gone x.stem || decide ((grp xs x.stem).length < 2)) = true) : homG xs (x :: l) gone = homG xs l gone := by rw [homG, if_pos h]
theorem homG_take {xs l : List Lx} {gone : List ByteArray} {x : Lx} (h : (inB gone x.stem || decide ((grp xs x.stem).length < 2)) = false) : homG xs (x :: l) gone = (grp xs x.stem).map Lx.id :: homG xs l (gone ++ [x.stem]) := by rw [homG, if_neg (by rw [h]; simp)]

/-- The map of the groups, behind some deletions. -/
structure Gd (w : World) (b base N : Nat) (xs : List Lx) (gone : List ByteArray) (val : ByteArray → Value) : Prop where
  own : ∃ D : DataW Value, w.ownsMap Tryd.prog 9 rawS b N D ∧ ∀ s, D.atKey (keyL s) (.held (.slice none 0 0)) = .held (if inB gone s then .slice none 0 0 else val s)
  row : ∀ s, w.ownsRow base 24 5 (val s) (grp xs s).length (flatL (grp xs s))
theorem Gm.gd {w : World} {b base N : Nat} {xs : List Lx} {D : DataW Value} {val : ByteArray → Value} (h : Gm w b base N xs D val) : Gd w b base N xs [] val := ⟨⟨D, h.own, fun s => by simpa [inB] using h.atk s⟩, h.row⟩
theorem Gd.aft {w w' : World} {b base N : Nat} {xs : List Lx} {gone : List ByteArray} {val : ByteArray → Value} (h : Gd w b base N xs gone val) (a : Aft w w') : Gd w' b base N xs gone val := by
  obtain ⟨⟨D, h1, h2⟩, h3⟩ := h
  exact ⟨⟨D, map_aft h1 a, h2⟩, fun s => own_aft (h3 s) a⟩
theorem row_apart {w : World} {b1 b2 s1 s2 n1 n2 : Nat} {e1 e2 : TypeId} {v1 v2 : Value} {l1 l2 : List Value} (h1 : w.ownsRow b1 e1 s1 v1 n1 l1) (h2 : w.ownsRow b2 e2 s2 v2 n2 l2) (he : e1 ≠ e2) : ∀ r, v1.ownBlock = some r → v2.ownBlock ≠ some r := by
  intro r k1 k2
  rcases h1.2 with ⟨rfl, _⟩ | ⟨g1, _, _, rfl, _, g1', _⟩
  · cases k1
  · rcases h2.2 with ⟨rfl, _⟩ | ⟨g2, _, _, rfl, _, g2', _⟩
    · cases k2
    · cases k1
      cases k2
      rw [g1'] at g2'
      cases g2'
      exact he rfl
theorem Gd.grown {w w' : World} {b base N base' size n : Nat} {xs : List Lx} {gone : List ByteArray} {val : ByteArray → Value} {e : TypeId} {v : Value} {l : List Value} (h : Gd w b base N xs gone val) (hr : w.ownsRow base' e size v n l) (he : 24 ≠ e) (hg : w.grownBy w' v.ownBlock) : Gd w' b base N xs gone val := by
  obtain ⟨⟨D, h1, h2⟩, h3⟩ := h
  exact ⟨⟨D, h1.kept hg (row_notmap hr h1), h2⟩, fun s => row_other (h3 s) hg (row_apart (h3 s) hr he)⟩
theorem Gd.look {w : World} {b base N : Nat} {xs : List Lx} {gone : List ByteArray} {val : ByteArray → Value} (h : Gd w b base N xs gone val) {s : ByteArray} (hs : s.size ≤ maxLen) :
    (Instr.lookup 56 (.map (some b)) (.string s) false).run Tryd.prog w = .ok (if inB gone s then .slice none 0 0 else val s) w := by
  obtain ⟨⟨D, h1, h2⟩, _⟩ := h
  obtain ⟨v, ps, hrun, hv⟩ := h1.lookup lawKs Tryd.underlying56 (zeroLs w) (show rawS (.slice none 0 0) = some (.held (.slice none 0 0), []) from rfl) (keyOf_string_mk Tryd.underlying9 hs)
  obtain ⟨q, _, hq⟩ := rawS_inv hv
  rw [show (Lit.string s.data.toList) = keyL s from rfl, h2] at hq
  have e : v = if inB gone s = true then Value.slice none 0 0 else val s := by
    have := (Prod.mk.inj hq).1
    exact (DataW.held.inj this).symm
  rw [← e]
  exact hrun
theorem Gd.del {w w' : World} {b base N : Nat} {xs : List Lx} {gone : List ByteArray} {val : ByteArray → Value} {D : DataW Value} (h3 : ∀ s, w.ownsRow base 24 5 (val s) (grp xs s).length (flatL (grp xs s))) (h1 : w.ownsMap Tryd.prog 9 rawS b N D) (h2 : ∀ s, D.atKey (keyL s) (.held (.slice none 0 0)) = .held (if inB gone s then .slice none 0 0 else val s))
    (t : ByteArray) (own' : w'.ownsMap Tryd.prog 9 rawS b N (D.del (keyL t))) (hg : w.grownBy w' (some b)) : Gd w' b base N xs (gone ++ [t]) val := by
  refine ⟨⟨_, own', fun s => ?_⟩, fun s => row_other (h3 s) hg (fun r hr e => row_notmap (h3 s) h1 (by rw [hr]; exact e))⟩
  by_cases e : s = t
  · subst e
    rw [atKey_del_same, inB_snoc]
    simp
  · rw [atKey_del_other (fun k => e (keyL_inj k)), h2, inB_snoc]
    simp [Ne.symm e]

/-- A row of slices of strings, each in a block of its own. -/
def Rss (w : World) (base : Nat) (v : Value) (L : List (List ByteArray)) : Prop := ∃ rs : List (Value × List ByteArray), rs.map (·.2) = L ∧ w.ownsRow base 42 1 v L.length (rs.map (·.1)) ∧ ∀ x ∈ rs, w.ownsRow 0 9 1 x.1 x.2.length (x.2.map Value.string)
theorem Rss.nil (w : World) (base : Nat) : Rss w base (.slice none 0 0) [] := ⟨[], rfl, World.ownsRow_nil _ _ _ _, fun x h => by cases h⟩
theorem Rss.aft {w w' : World} {base : Nat} {v : Value} {L : List (List ByteArray)} (h : Rss w base v L) (k : Aft w w') : Rss w' base v L := by
  obtain ⟨rs, h1, h2, h3⟩ := h
  exact ⟨rs, h1, own_aft h2 k, fun x hx => own_aft (h3 x hx) k⟩
theorem Rss.row {w : World} {base : Nat} {v : Value} {L : List (List ByteArray)} (h : Rss w base v L) : ∃ vs, w.ownsRow base 42 1 v L.length vs := by
  obtain ⟨rs, h1, h2, h3⟩ := h
  exact ⟨_, h2⟩
theorem Rss.push {w w' : World} {base base' m : Nat} {v v' u : Value} {L : List (List ByteArray)} {l : List ByteArray} {vs : List Value} (h : Rss w base v L) (hv : w.ownsRow base 42 1 v L.length vs) (hl : w.ownsRow base' 9 1 u m (l.map Value.string)) (hm : l.length = m)
    (own' : w'.ownsRow base 42 1 v' (L.length + 1) (vs ++ [u])) (hg : w.grownBy w' v.ownBlock) : Rss w' base v' (L ++ [l]) := by
  obtain ⟨rs, h1, h2, h3⟩ := h
  have hvs : vs = rs.map (·.1) := by
    rcases h2.2 with ⟨e, e0⟩ | ⟨g, cap, cur, e, _, e3, _, _, _, e7⟩
    · have a1 := hv.1; have a2 := h2.1
      rw [e0] at a1 a2
      rw [List.length_eq_zero_iff.1 (by omega : vs.length = 0), List.length_eq_zero_iff.1 (by omega : (rs.map (·.1)).length = 0)]
    · rcases hv.2 with ⟨e', _⟩ | ⟨g', cap', cur', e', _, e3', _, _, _, e7'⟩
      · rw [e] at e'; cases e'
      · rw [e] at e'
        cases e'
        rw [e3] at e3'
        cases e3'
        rw [← e7, ← e7']
  refine ⟨rs ++ [(u, l)], by rw [List.map_append, h1]; rfl, ?_, fun x hx => ?_⟩
  · rw [List.length_append, List.map_append, ← hvs]; exact own'
  · rcases List.mem_append.1 hx with k | k
    · exact row_other (h3 x k) hg (row_apart (h3 x k) h2 (by decide))
    · rw [List.mem_singleton.1 k]
      subst hm
      exact row_base (row_other hl hg (row_apart hl h2 (by decide))) (Nat.zero_le _)

/-- THE SLICE '.slice A n c' HOLDS SLICES OF STRINGS. -/
structure Sss (w : World) (A : Option Addr) (n c : Nat) (L : List (List ByteArray)) : Prop where
  len : L.length = n
  le : n ≤ c
  cmax : c ≤ 9223372036854775807
  nl : A = none → c = 0
  cells : ∀ i l, L[i]? = some l → ∃ b off B m d, A = some ⟨b, off, none⟩ ∧ w.cell? ⟨b, off + i, none⟩ = some (.slice B m d) ∧ Ss w B m d l
theorem Sss.aft {w w' : World} {A : Option Addr} {n c : Nat} {L : List (List ByteArray)} (h : Sss w A n c L) (k : Aft w w') : Sss w' A n c L :=
  ⟨h.len, h.le, h.cmax, h.nl, fun i fs hi => by
    obtain ⟨b, off, B, m, d, hA, h1, h2⟩ := h.cells i fs hi
    exact ⟨b, off, B, m, d, hA, k.cell h1, h2.aft k⟩⟩
theorem Sss.at_ {w : World} {A : Option Addr} {n c k : Nat} {L : List (List ByteArray)} (h : Sss w A n c L) (hk : k < n) :
    ∃ b off B m d l, A = some ⟨b, off, none⟩ ∧ L[k]? = some l ∧ w.cell? ⟨b, off + k, none⟩ = some (.slice B m d) ∧ Ss w B m d l := by
  have hl : k < L.length := by have := h.len; omega
  have hi : L[k]? = some L[k] := List.getElem?_eq_getElem hl
  obtain ⟨b, off, B, m, d, h1, h2, h3⟩ := h.cells k _ hi
  exact ⟨b, off, B, m, d, _, h1, hi, h2, h3⟩
theorem Ss.of_row {w : World} {base n : Nat} {v : Value} {l : List ByteArray} (h : w.ownsRow base 9 1 v n (l.map Value.string)) (hl : l.length = n) (hm : n ≤ 1099511627776) : ∃ A c, v = .slice A n c ∧ Ss w A n c l := by
  rcases h.2 with ⟨rfl, rfl⟩ | ⟨g, cap, cur, rfl, _, _, hle, hc, _⟩
  · have : l = [] := List.length_eq_zero_iff.1 hl
    subst this
    exact ⟨none, 0, rfl, Ss.nil (by omega) (fun _ => rfl)⟩
  · refine ⟨_, _, rfl, hl, hle, by omega, by unfold maxLen at hc; omega, fun e => (by cases e), fun i s hi => ⟨g, 0, rfl, ?_⟩⟩
    have hlt : i < n := by have := (List.getElem?_eq_some_iff.1 hi).1; omega
    rw [Nat.zero_add, h.cellAt _ (by omega), List.getElem?_map, hi]
    rfl
theorem Rss.sss {w : World} {base : Nat} {v : Value} {L : List (List ByteArray)} (h : Rss w base v L) (hm : ∀ l ∈ L, l.length ≤ 1099511627776) : ∃ A c, v = .slice A L.length c ∧ Sss w A L.length c L := by
  obtain ⟨rs, h1, h2, h3⟩ := h
  subst h1
  have h2' := h2
  rcases h2.2 with ⟨e, e0⟩ | ⟨g, cap, cur, e, _, _, hle, hc, _⟩
  · refine ⟨none, 0, by rw [e0]; exact e, rfl, by omega, by omega, fun _ => rfl, fun i l hi => by have := (List.getElem?_eq_some_iff.1 hi).1; omega⟩
  · refine ⟨_, _, e, rfl, hle, by unfold maxLen at hc; omega, fun e => (by cases e), fun i l hi => ?_⟩
    have hlt := (List.getElem?_eq_some_iff.1 hi).1
    rw [List.getElem?_map] at hi
    obtain ⟨x, hx, rfl⟩ := Option.map_eq_some_iff.1 hi
    obtain ⟨a, c', e1, s⟩ := Ss.of_row (h3 x (List.mem_of_getElem? hx)) rfl (hm x.2 (List.mem_map.2 ⟨x, List.mem_of_getElem? hx, rfl⟩))
    subst e
    refine ⟨g, 0, a, _, c', rfl, ?_, s⟩
    rw [Nat.zero_add, h2'.cellAt _ (by omega), List.getElem?_map, hx, ← e1]
    rfl
end Go.Proofs.YtpkhoklahcgcoaaDoor
