/-
  Lists of names and sets of names: how a slice of strings lies in memory ('Ss'); among(names) gives the test whether a feature's name is in the list. Condition: the slice holds the names, none of which is longer than a string can be.
-/
import Derived.Test.YthoppaemlandaaaDoorFeatRefMeet
import Derived.Maps.OwnOps
import Derived.Maps.OwnSet
import Derived.Maps.Views
import Derived.Maps.AppendAt
namespace Go.Proofs.YthoppaemlandaaaDoor
open Go.RowKit Go.Maps Go.WideMaps
open FeatPlain

/-- THE SLICE '.slice A n c' HOLDS THE STRINGS ss. -/
structure Ss (w : World) (A : Option Addr) (n c : Nat) (ss : List ByteArray) : Prop where
  len : ss.length = n
  le : n ≤ c
  max : n * 16 ≤ 281474976710656
  cmax : c ≤ 9223372036854775807
  nl : A = none → c = 0
  cells : ∀ i s, ss[i]? = some s → ∃ b off, A = some ⟨b, off, none⟩ ∧ w.cell? ⟨b, off + i, none⟩ = some (.string s)

theorem Ss.aft {w w' : World} {A : Option Addr} {n c : Nat} {ss : List ByteArray} (h : Ss w A n c ss) (k : Aft w w') : Ss w' A n c ss :=
  ⟨h.len, h.le, h.max, h.cmax, h.nl, fun i f hi => by
    obtain ⟨b, off, hA, h1⟩ := h.cells i f hi
    exact ⟨b, off, hA, k.cell h1⟩⟩

theorem Ss.at_ {w : World} {A : Option Addr} {n c k : Nat} {ss : List ByteArray} (h : Ss w A n c ss) (hk : k < n) :
    ∃ b off s, A = some ⟨b, off, none⟩ ∧ ss[k]? = some s ∧ w.cell? ⟨b, off + k, none⟩ = some (.string s) := by
  have hl : k < ss.length := by have := h.len; omega
  have hi : ss[k]? = some ss[k] := List.getElem?_eq_getElem hl
  obtain ⟨b, off, hA, h1⟩ := h.cells k _ hi
  exact ⟨b, off, _, hA, hi, h1⟩

theorem Ss.nil {w : World} {A : Option Addr} {c : Nat} (hm : c ≤ 9223372036854775807) (hn : A = none → c = 0) : Ss w A 0 c [] := ⟨rfl, Nat.zero_le _, by omega, hm, hn, fun i f h => by simp at h⟩

theorem lawK : Keyed Tryd.prog 9 := string_keyed Tryd.underlying9
theorem zeroB (w : World) : (zeroValue 4).run Tryd.prog w = .ok (.bool false) w := by kernel_rfl

theorem plainElem_bool_inv {H : Type} {P : Program} {e : TypeId} (he : P.underlying e = some .bool) {v : Value} {z : DataW H × List MemPlace} (h : plainElem P e v = some z) : ∃ x, v = .bool x ∧ z = (.lit (.bool x), []) := by
  unfold plainElem at h
  rw [he] at h
  cases v <;> simp at h
  exact ⟨_, rfl, h.symm⟩

theorem lookup_bool {H : Type} {P : Program} {k t e : TypeId} {w : World} {b n : Nat} {D : DataW H} (h : w.ownsMap P k (plainElem P e) b n D) (K : Keyed P k) (ht : P.underlying t = some (.map k e)) (he : P.underlying e = some .bool) (hz : (zeroValue e).run P w = .ok (.bool false) w)
    {key : Value} {kl : Lit} (hkey : keyOf P k key = some kl) : ∃ c, (Instr.lookup t (.map (some b)) key false).run P w = .ok (.bool c) w ∧ D.atKey kl (.lit (.bool false)) = .lit (.bool c) := by
  obtain ⟨v, ps, hrun, hv⟩ := h.lookup K ht hz (plainElem_bool he false) hkey
  obtain ⟨c, rfl, hc⟩ := plainElem_bool_inv he hv
  simp only [Prod.mk.injEq] at hc
  exact ⟨c, hrun, hc.1⟩

/-- Is the name among these? -/
def inB (ss : List ByteArray) (s : ByteArray) : Bool := ss.any fun t => decide (t = s)
theorem inB_cons (ss : List ByteArray) (s t : ByteArray) : inB (t :: ss) s = (decide (t = s) || inB ss s) := rfl
theorem inB_snoc (ss : List ByteArray) (s t : ByteArray) : inB (ss ++ [t]) s = (inB ss s || decide (t = s)) := by simp [inB]

theorem run_makeMapF (n : Int) (w : World) : (Instr.makeMap 65 (some (.int .i64 n))).run Tryd.prog w = .ok (.map (some w.heap.size)) (w.alloc (.map #[] 0)) := by
  kernel_rfl

/-- Block Bm is a set that holds the names ss. -/
structure SetIn (w : World) (Bm k : Nat) (D : DataW Unit) (ss : List ByteArray) : Prop where
  own : w.ownsMap Tryd.prog 9 (plainElem Tryd.prog 4) Bm k D
  mem : ∀ s : ByteArray, D.atKey (.string s.data.toList) (.lit (.bool false)) = .lit (.bool (inB ss s))

theorem SetIn.put {w w' : World} {Bm k : Nat} {D : DataW Unit} {ss : List ByteArray} (h : SetIn w Bm k D ss) (t : ByteArray) (own' : w'.ownsMap Tryd.prog 9 (plainElem Tryd.prog 4) Bm (k + 1) (D.put (.string t.data.toList) (.lit (.bool true)))) :
    SetIn w' Bm (k + 1) (D.put (.string t.data.toList) (.lit (.bool true))) (ss ++ [t]) := by
  refine ⟨own', fun s => ?_⟩
  by_cases e : s = t
  · subst e
    rw [atKey_put_same h.own.isMap (by simp [WideAt.IsKeyLit]), inB_snoc]
    simp
  · rw [atKey_put_other (fun k => e (WideShapes.bytes_inj (by simpa using k))), h.mem, inB_snoc]
    simp [Ne.symm e]

theorem SetIn.aft {w w' : World} {Bm k : Nat} {D : DataW Unit} {ss : List ByteArray} (h : SetIn w Bm k D ss) (a : Aft w w') : SetIn w' Bm k D ss := by
  refine ⟨?_, h.mem⟩
  have hlt := h.own.lt
  obtain ⟨es, clock, hb, r⟩ := h.own
  exact ⟨es, clock, (Below.block a Bm hlt).trans hb, r⟩

theorem SetIn.run {w : World} {Bm k : Nat} {D : DataW Unit} {ss : List ByteArray} (h : SetIn w Bm k D ss) {s : ByteArray} (hs : s.size ≤ maxLen) :
    (Instr.lookup 65 (.map (some Bm)) (.string s) false).run Tryd.prog w = .ok (.bool (inB ss s)) w := by
  obtain ⟨c, hr, hc⟩ := lookup_bool h.own lawK Tryd.underlying65 Tryd.underlying4 (zeroB w) (keyOf_string_mk Tryd.underlying9 hs)
  rw [h.mem] at hc
  simp at hc
  rw [hr, hc]

theorem take_next {α : Type} {l : List α} {k : Nat} {x : α} (h : l[k]? = some x) : l.take (k + 1) = l.take k ++ [x] := by
  rw [List.take_add_one, h]; rfl

end Go.Proofs.YthoppaemlandaaaDoor
