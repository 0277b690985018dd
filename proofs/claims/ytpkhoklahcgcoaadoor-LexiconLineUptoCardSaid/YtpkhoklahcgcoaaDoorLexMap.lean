/-
  A map from strings to slices of lexemes that the call has made ('Gm'): what it holds for each stem, and that no two of its slices share a block. Conditions: as each theorem says.
-/
import Derived.Test.YtpkhoklahcgcoaaDoorLexBase
import Derived.Test.YtpkhoklahcgcoaaDoorFtAll
import Derived.Maps.OwnOps
import Derived.Maps.OwnSet
import Derived.Maps.Views
import Derived.Maps.AppendAt
import Derived.Maps.RangeWalk
namespace Go.Proofs.YtpkhoklahcgcoaaDoor
open Go.RowKit Go.Maps Go.WideMaps
open FeatPlain

/-- How an element of the map reads: as itself, if it is a slice. -/
def rawS : Value → Option (DataW Value × List MemPlace)
  | .slice a n c => some (.held (.slice a n c), [])
  | _ => none
theorem rawS_inv {v : Value} {y : DataW Value × List MemPlace} (h : rawS v = some y) : ∃ q : Option Addr × Nat × Nat, v = .slice q.1 q.2.1 q.2.2 ∧ y = (.held v, []) := by
  cases v <;> simp [rawS] at h
  exact ⟨(_, _, _), rfl, h.symm⟩
def keyL (s : ByteArray) : Lit := .string s.data.toList
theorem keyL_inj {s t : ByteArray} (h : keyL s = keyL t) : s = t := WideShapes.bytes_inj (by simpa [keyL] using h)
theorem keyL_key (s : ByteArray) : WideAt.IsKeyLit (keyL s) := by simp [WideAt.IsKeyLit, keyL]
theorem lawKs : Keyed Tryd.prog 9 := string_keyed Tryd.underlying9

/-- The lexemes with this stem. -/
def grp (xs : List Lx) (s : ByteArray) : List Lx := xs.filter fun x => decide (x.stem = s)
theorem grp_snoc (xs : List Lx) (x : Lx) (s : ByteArray) : grp (xs ++ [x]) s = grp xs s ++ if x.stem = s then [x] else [] := by
  unfold grp
  rw [List.filter_append]
  by_cases h : x.stem = s <;> simp [h]

structure Gm (w : World) (b base N : Nat) (xs : List Lx) (D : DataW Value) (val : ByteArray → Value) : Prop where
  own : w.ownsMap Tryd.prog 9 rawS b N D
  has : ∀ s, Maps.has D (keyL s) = !(grp xs s).isEmpty
  atk : ∀ s, D.atKey (keyL s) (.held (.slice none 0 0)) = .held (val s)
  row : ∀ s, w.ownsRow base 24 5 (val s) (grp xs s).length (flatL (grp xs s))
  apart : ∀ s t r, s ≠ t → (val s).ownBlock = some r → (val t).ownBlock ≠ some r
theorem map_aft {H : Type} {P : Program} {k : TypeId} {R : Value → Option (DataW H × List MemPlace)} {w w' : World} {b n : Nat} {D : DataW H} (h : w.ownsMap P k R b n D) (a : Aft w w') : w'.ownsMap P k R b n D := by
  have hlt := h.lt
  obtain ⟨es, clock, hb, r⟩ := h
  exact ⟨es, clock, (Below.block a b hlt).trans hb, r⟩
theorem Gm.aft {w w' : World} {b base N : Nat} {xs : List Lx} {D : DataW Value} {val : ByteArray → Value} (h : Gm w b base N xs D val) (a : Aft w w') : Gm w' b base N xs D val :=
  ⟨map_aft h.own a, h.has, h.atk, fun s => own_aft (h.row s) a, h.apart⟩
theorem row_notmap {w : World} {base size n b N : Nat} {e k : TypeId} {v : Value} {l : List Value} {H : Type} {P : Program} {R : Value → Option (DataW H × List MemPlace)} {D : DataW H} (h : w.ownsRow base e size v n l) (hm : w.ownsMap P k R b N D) : some b ≠ v.ownBlock := by
  intro hb
  obtain ⟨es, clock, h1, _⟩ := hm
  rcases h.2 with ⟨rfl, _⟩ | ⟨g, cap, cur, rfl, _, hg, _⟩
  · cases hb
  · cases hb
    rw [h1] at hg
    cases hg
theorem row_other {w w' : World} {base size n : Nat} {e : TypeId} {v : Value} {l : List Value} {row : Option Nat} (h : w.ownsRow base e size v n l) (hg : w.grownBy w' row) (hne : ∀ r, v.ownBlock = some r → row ≠ some r) : w'.ownsRow base e size v n l := by
  refine ⟨h.1, ?_⟩
  rcases h.2 with k | ⟨g, cap, cur, rfl, hb, hc, r⟩
  · exact .inl k
  · exact .inr ⟨g, cap, cur, rfl, hb, (hg.block g (Array.getElem?_eq_some_iff.1 hc).1 (fun e => hne g rfl e.symm)).trans hc, r⟩

theorem Gm.made (w : World) : Gm (w.alloc (.map #[] 0)) w.heap.size w.heap.size 0 [] (.map []) (fun _ => .slice none 0 0) :=
  ⟨World.ownsMap_made _ _ _ _, fun s => rfl, fun s => rfl, fun s => World.ownsRow_nil _ _ _ _, fun s t r _ h => by cases h⟩

/-- A lexeme more, behind the append and the store. -/
theorem Gm.push {w w1 w2 : World} {b base N : Nat} {xs : List Lx} {D : DataW Value} {val : ByteArray → Value} (h : Gm w b base N xs D val) (x : Lx) {v' : Value}
    (own1 : w1.ownsRow base 24 5 v' ((grp xs x.stem).length + 1) (flatL (grp xs x.stem) ++ flatL [x])) (g1 : w.grownBy w1 (val x.stem).ownBlock) (hat : At w w1 (val x.stem) v' (grp xs x.stem).length 1)
    (own2 : w2.ownsMap Tryd.prog 9 rawS b (N + 1) (D.put (keyL x.stem) (.held v'))) (g2 : w1.grownBy w2 (some b)) :
    Gm w2 b base (N + 1) (xs ++ [x]) (D.put (keyL x.stem) (.held v')) (fun t => if t = x.stem then v' else val t) := by
  have hm1 : w1.ownsMap Tryd.prog 9 rawS b N D := h.own.kept g1 (row_notmap (h.row x.stem) h.own)
  have k1 : w2.ownsRow base 24 5 v' ((grp xs x.stem).length + 1) (flatL (grp xs x.stem) ++ flatL [x]) := row_other own1 g2 (fun r hr e => row_notmap own1 hm1 (by rw [hr, e]))
  have k2 : ∀ t, t ≠ x.stem → w1.ownsRow base 24 5 (val t) (grp xs t).length (flatL (grp xs t)) := fun t ht => row_other (h.row t) g1 (fun r hr e => h.apart t x.stem r ht hr e)
  have k3 : ∀ t, t ≠ x.stem → w2.ownsRow base 24 5 (val t) (grp xs t).length (flatL (grp xs t)) := fun t ht => row_other (k2 t ht) g2 (fun r hr e => row_notmap (k2 t ht) hm1 (by rw [hr, e]))
  have new : ∀ t r, t ≠ x.stem → v'.ownBlock = some r → (val t).ownBlock ≠ some r := fun t r ht hr e => by
    rcases hat with ⟨g, cap, e1, e2⟩ | ⟨e1, _⟩
    · rw [e2] at hr
      cases hr
      exact h.apart x.stem t g (Ne.symm ht) (by rw [e1]; rfl) e
    · rw [e1] at hr
      cases hr
      rcases (h.row t).2 with ⟨e3, _⟩ | ⟨g, cap, cur, e3, _, hg, _⟩
      · rw [e3] at e; cases e
      · rw [e3] at e
        have e4 : g = w.heap.size := by simpa [Value.ownBlock] using e
        have e5 := (Array.getElem?_eq_some_iff.1 hg).1
        omega
  refine ⟨own2, fun s => ?_, fun s => ?_, fun s => ?_, fun s t r hst hs => ?_⟩
  · rw [grp_snoc]
    by_cases e : s = x.stem
    · subst e
      rw [has_put_same h.own.isMap (keyL_key _)]
      simp
    · rw [has_put_other (fun k => e (keyL_inj k)), h.has]
      simp [Ne.symm e]
  · by_cases e : s = x.stem
    · subst e
      rw [atKey_put_same h.own.isMap (keyL_key _), if_pos rfl]
    · rw [atKey_put_other (fun k => e (keyL_inj k)), h.atk, if_neg e]
  · rw [grp_snoc]
    by_cases e : s = x.stem
    · subst e
      rw [if_pos rfl, if_pos rfl, List.length_append, flatL_append]
      exact k1
    · rw [if_neg e, if_neg (Ne.symm e), List.append_nil]
      exact k3 s e
  · by_cases e : s = x.stem
    · rw [if_pos e] at hs
      have ht : t ≠ x.stem := fun k => hst (e.trans k.symm)
      rw [if_neg ht]
      exact new t r ht hs
    · rw [if_neg e] at hs
      by_cases e' : t = x.stem
      · rw [if_pos e']
        exact fun k => new s r e k hs
      · rw [if_neg e']
        exact h.apart s t r hst hs

theorem Gm.look {w : World} {b base N : Nat} {xs : List Lx} {D : DataW Value} {val : ByteArray → Value} (h : Gm w b base N xs D val) {t e : TypeId} (ht : Tryd.prog.underlying t = some (.map 9 e)) (hz : (zeroValue e).run Tryd.prog w = .ok (.slice none 0 0) w) {s : ByteArray} (hs : s.size ≤ maxLen) :
    (Instr.lookup t (.map (some b)) (.string s) false).run Tryd.prog w = .ok (val s) w := by
  obtain ⟨v, ps, hrun, hv⟩ := h.own.lookup lawKs ht hz (show rawS (.slice none 0 0) = some (.held (.slice none 0 0), []) from rfl) (keyOf_string_mk Tryd.underlying9 hs)
  obtain ⟨q, _, hq⟩ := rawS_inv hv
  rw [show (Lit.string s.data.toList) = keyL s from rfl, h.atk] at hq
  cases hq
  exact hrun
theorem Gm.raw {w : World} {b base N : Nat} {xs : List Lx} {D : DataW Value} {val : ByteArray → Value} (h : Gm w b base N xs D val) (s : ByteArray) : ∃ a c, val s = .slice a (grp xs s).length c := by
  rcases (h.row s).2 with ⟨e, h0⟩ | ⟨g, cap, cur, e, _⟩
  · exact ⟨none, 0, by rw [e, h0]⟩
  · exact ⟨_, _, e⟩
end Go.Proofs.YtpkhoklahcgcoaaDoor
