/-
  Plain mathematics of alphabets (no Go in sight): letters as pairs of a rune and classes, the index of a rune's first letter, the number of distinct runes.
  What the walks over package alphabet share: how a slice of letters lies in memory ('Ll'), worlds that only grew ('Aft'), the forms of results.
  positions(a) maps each rune of a list of letters to the index of its first letter; Index and Classes. Condition: the slice holds the letters.
  Index, Classes and Valid. Condition: the slice holds the letters; the rune is an int32.
  Words: all strings of n letters. lengthen gives each word with each letter behind it. Condition: the slices hold the words and the letters; there are at most 256 new words; no word is longer than 1000 bytes.
  Compare: the first two runes that differ decide, letters by their indices, before all other runes; a string comes before its continuations. Condition: the slice holds the letters; the tables of package unicode/utf8 lie as their texts say.
  IsWord: valid UTF-8, at most 40 runes, all of them letters. Condition: the slice holds the letters, the tables lie as their texts say, and ValidString's answer for this string is known (here for ASCII strings of at most 8 bytes).
  The reference's Good, Index, Classes and Valid, and few. Condition: the slices hold the letters and the strings; the rune is an int32.
  Select returns the runes of the letters that have all classes of a mask, in order; the reference's Select; Runes tells whether two lists of runes are equal. Condition: the slices hold the letters and the runes; there are at most 70 letters.
  The reference's Compare: it compares the lists of runes; the program's does the same. few of a list of strings. Condition: the slices hold the letters and the strings; no string is longer than 2^46 bytes.
  Compare is a total order on strings of valid UTF-8: plain mathematics, and the reference's UTF8. Conditions: as each theorem says.
  Plain mathematics of valid UTF-8: the runes of a list of bytes, of a concatenation, of an encoded rune; ValidString's word and the reference's UTF8 agree. Conditions: as each theorem says.
  IsWord for every string, by ValidString's contract; the reference's Over and IsWord. Conditions: the slice holds the letters, the tables lie as their texts say; for the reference: the string has at most 200 bytes.
  How an argument that is a slice of letters is opened, and how the tables of package unicode/utf8, which every row lists, lie in memory, at a seat of another package than alphabet. Conditions: as each theorem says.
-/
import GoSem.Op.String
import Derived.Test.YtfoeghabnbjbgaaDoorProg
import Derived.WalkKit
import Derived.WalkLawsBesides
import Derived.Laws.StructEq
import Derived.Laws.Tables
import Derived.Deep.LoopGhost
import Derived.Deep.QuietTactic
import Derived.BigQuiet
import Derived.Deep.Draws
import Derived.Lib.Hide
import Derived.KernelRfl
import Derived.Maps.OwnOps
import Derived.Maps.OwnSet
import Derived.Maps.Views
import Derived.Maps.AppendAt
import Derived.Deep.DeepMust
import Derived.Test.YtfoeghabnbjbgaaDoorShelf
import Derived.Laws.EntriesVeiled
import Derived.Lib.OthersKept
import Derived.Lib.RuneCountTail
import Derived.Shelf.Unicode.DecodeLastEight
import Derived.Laws.Cover4
import Derived.Laws.IdiomStrings
import Derived.Lib.MapLaws
import Derived.Lib.ValidLaws
import Derived.Test.YtfoeghabnbjbgaaDoorShelfV
import Derived.Test.YtfoeghabnbjbgaaDoorRows
import Derived.Lib.LaidIn
import Derived.Lib.LaidU8T
import Derived.ProofKit
import Derived.OpenShut
import Derived.ChangeOld
import Derived.SizedLaws
import Derived.Deep.SlicePairs
import Derived.Deep.Strs
namespace Go.Proofs.YtfoeghabnbjbgaaDoor.AlphPlain

/-- A letter: rune and classes. -/
abbrev Lt := Int × Int

/-- The index of the first letter with a rune. -/
def idx : List Lt → Int → Option Nat
  | [], _ => none
  | l :: a, r => if l.1 = r then some 0 else (idx a r).map (· + 1)

def has (a : List Lt) (r : Int) : Bool := (idx a r).isSome
/-- The index, 0 if there is none. -/
def pos (a : List Lt) (r : Int) : Nat := (idx a r).getD 0

theorem idx_append : ∀ (a b : List Lt) (r : Int), idx (a ++ b) r = match idx a r with | some i => some i | none => (idx b r).map (· + a.length)
  | [], b, r => by simp [idx]
  | l :: a, b, r => by
    rw [List.cons_append, idx, idx]
    by_cases h : l.1 = r
    · simp [h]
    · rw [if_neg h, if_neg h, idx_append a b r]
      cases idx a r
      · cases idx b r <;> simp; omega
      · rfl

theorem idx_snoc (a : List Lt) (l : Lt) (r : Int) : idx (a ++ [l]) r = match idx a r with | some i => some i | none => if l.1 = r then some a.length else none := by
  rw [idx_append]
  cases idx a r
  · simp [idx]
  · rfl

theorem idx_lt : ∀ {a : List Lt} {r : Int} {i : Nat}, idx a r = some i → ∃ l, a[i]? = some l ∧ l.1 = r
  | l :: a, r, i, h => by
    rw [idx] at h
    split at h
    · cases h; exact ⟨l, rfl, by assumption⟩
    · obtain ⟨j, hj, rfl⟩ := Option.map_eq_some_iff.1 h
      obtain ⟨m, hm, e⟩ := idx_lt hj
      exact ⟨m, by simpa using hm, e⟩

theorem idx_le : ∀ {a : List Lt} {l : Lt} {i : Nat}, a[i]? = some l → ∃ j, idx a l.1 = some j ∧ j ≤ i
  | [], _, _, h => by simp at h
  | x :: a, l, 0, h => by simp at h; subst h; exact ⟨0, by simp [idx], Nat.le_refl _⟩
  | x :: a, l, i + 1, h => by
    rw [idx]
    by_cases e : x.1 = l.1
    · exact ⟨0, by simp [e], Nat.zero_le _⟩
    · obtain ⟨j, hj, hle⟩ := idx_le (a := a) (i := i) (l := l) (by simpa using h)
      exact ⟨j + 1, by simp [e, hj], by omega⟩

theorem has_snoc (a : List Lt) (l : Lt) (r : Int) : has (a ++ [l]) r = (has a r || decide (l.1 = r)) := by
  unfold has
  rw [idx_snoc]
  cases idx a r
  · by_cases h : l.1 = r <;> simp [h]
  · rfl

/-- How many distinct runes are there? -/
def cntR : List Lt → Nat
  | [] => 0
  | l :: r => if has r.reverse l.1 then cntR r else cntR r + 1
def cnt (a : List Lt) : Nat := cntR a.reverse

theorem cnt_nil : cnt [] = 0 := rfl
theorem cnt_snoc (a : List Lt) (l : Lt) : cnt (a ++ [l]) = if has a l.1 then cnt a else cnt a + 1 := by
  unfold cnt
  rw [List.reverse_append, List.reverse_singleton, List.singleton_append, cntR, List.reverse_reverse]

theorem cnt_le : ∀ (n : Nat) (a : List Lt), a.length = n → cnt a ≤ n
  | 0, a, h => by rw [List.length_eq_zero_iff.1 h]; exact Nat.le_refl _
  | n + 1, a, h => by
    have hne : a ≠ [] := fun e => by rw [e] at h; cases h
    have ha := List.dropLast_concat_getLast hne
    have hl : a.dropLast.length = n := by rw [List.length_dropLast]; omega
    have ih := cnt_le n _ hl
    rw [← ha, cnt_snoc]
    split <;> omega

/-- All runes are distinct. -/
def Dist (a : List Lt) : Prop := ∀ i l, a[i]? = some l → idx a l.1 = some i

theorem cnt_dist : ∀ (n : Nat) (a : List Lt), a.length = n → (cnt a = n ↔ Dist a)
  | 0, a, h => by rw [List.length_eq_zero_iff.1 h]; exact ⟨fun _ i l hi => by simp at hi, fun _ => rfl⟩
  | n + 1, a, h => by
    have hne : a ≠ [] := fun e => by rw [e] at h; cases h
    have ha := List.dropLast_concat_getLast hne
    generalize a.getLast hne = l at ha
    have hl : a.dropLast.length = n := by rw [List.length_dropLast]; omega
    generalize a.dropLast = b at ha hl
    subst ha
    have ih := cnt_dist n b hl
    have hb := cnt_le n b hl
    rw [cnt_snoc]
    constructor
    · intro hc
      have hh : has b l.1 = false := by
        cases k : has b l.1
        · rfl
        · rw [k] at hc; simp at hc; omega
      rw [hh] at hc
      simp at hc
      have hd := ih.1 hc
      intro i m hi
      rw [idx_snoc]
      rcases Nat.lt_or_ge i n with hlt | hge
      · rw [List.getElem?_append_left (by omega)] at hi
        rw [hd i m hi]
      · obtain rfl : i = n := by have := (List.getElem?_eq_some_iff.1 hi).1; simp at this; omega
        rw [List.getElem?_append_right (by omega), hl] at hi
        simp at hi
        subst hi
        have : idx b l.1 = none := by unfold has at hh; cases k : idx b l.1 <;> simp_all
        rw [this]
        simp [hl]
    · intro hd
      have hh : has b l.1 = false := by
        have h1 := hd n l (by rw [List.getElem?_append_right (by omega), hl]; simp)
        rw [idx_snoc] at h1
        unfold has
        cases k : idx b l.1 with
        | none => rfl
        | some j =>
          rw [k] at h1
          simp at h1
          subst h1
          obtain ⟨m, hm, _⟩ := idx_lt k
          have := (List.getElem?_eq_some_iff.1 hm).1
          omega
      have hdb : Dist b := by
        intro i m hi
        have hlt := (List.getElem?_eq_some_iff.1 hi).1
        have h1 := hd i m (by rw [List.getElem?_append_left hlt]; exact hi)
        rw [idx_snoc] at h1
        cases k : idx b m.1 with
        | none =>
          rw [k] at h1
          simp at h1
          omega
        | some j => rw [k] at h1; exact h1
      rw [hh, ih.2 hdb]
      simp
end Go.Proofs.YtfoeghabnbjbgaaDoor.AlphPlain

namespace Go.Proofs.YtfoeghabnbjbgaaDoor.Al
open Go.RowKit
open AlphPlain

/-- w' is w with new memory; nothing that was there has changed. -/
def Aft (w w' : World) : Prop := Below w.heap.size w w'
theorem Aft.refl (w : World) : Aft w w := Below.refl _ _
theorem Aft.trans {a b c : World} (h : Aft a b) (k : Aft b c) : Aft a c := Below.trans h (Below.mono k (Below.size h))
theorem Aft.alloc {a w : World} (h : Aft a w) (o : Obj) : Aft a (w.alloc o) := Below.alloc h (Below.size h) o
theorem Aft.drewN {a w : World} (h : Aft a w) (n : Nat) : Aft a (w.drewN n) := ⟨h.os, h.tape, h.output, h.size, h.block⟩
theorem Aft.setCell {a w : World} (h : Aft a w) {p : Addr} (hp : a.heap.size ≤ p.block) (u : Value) : Aft a (w.setCell p u) := Below.setCell h hp u
theorem Aft.cell {w w' : World} (h : Aft w w') {p : Addr} {v : Value} (hc : w.cell? p = some v) : w'.cell? p = some v := (Below.cell h (World.block_lt_of_cell? w p hc)).trans hc
theorem Aft.size {w w' : World} (h : Aft w w') : w.heap.size ≤ w'.heap.size := Below.size h
theorem Aft.grown {a w w' : World} {row : Option Nat} (h : Aft a w) (hg : w.grownBy w' row) (hr : ∀ k, row = some k → a.heap.size ≤ k) : Aft a w' := Below.grown h hg (Below.size h) hr

def BoolPost (w : World) (r : Bool) (e : Ending) (w' : World) : Prop := e = .returned (.bool r) ∧ Aft w w'
def ValPost (w : World) (r : Value) (e : Ending) (w' : World) : Prop := e = .returned r ∧ Aft w w'

/-- THE SLICE '.slice A n c' HOLDS THE LETTERS ls. -/
structure Ll (w : World) (A : Option Addr) (n c : Nat) (ls : List Lt) : Prop where
  len : ls.length = n
  le : n ≤ c
  max : n * 8 ≤ 281474976710656
  cmax : c ≤ 9223372036854775807
  nl : A = none → c = 0
  cells : ∀ i l, ls[i]? = some l → ∃ b off, A = some ⟨b, off, none⟩ ∧ w.cell? ⟨b, off + i * 2, none⟩ = some (.int .i32 l.1) ∧ w.cell? ⟨b, off + i * 2 + 1, none⟩ = some (.int .u32 l.2)
  wf : ∀ l ∈ ls, (Lit.int .i32 l.1).wf = true ∧ (Lit.int .u32 l.2).wf = true

theorem Ll.aft {w w' : World} {A : Option Addr} {n c : Nat} {ls : List Lt} (h : Ll w A n c ls) (k : Aft w w') : Ll w' A n c ls :=
  ⟨h.len, h.le, h.max, h.cmax, h.nl, fun i f hi => by
    obtain ⟨b, off, hA, h1, h2⟩ := h.cells i f hi
    exact ⟨b, off, hA, k.cell h1, k.cell h2⟩, h.wf⟩

theorem Ll.at_ {w : World} {A : Option Addr} {n c k : Nat} {ls : List Lt} (h : Ll w A n c ls) (hk : k < n) :
    ∃ b off l, A = some ⟨b, off, none⟩ ∧ ls[k]? = some l ∧ w.cell? ⟨b, off + k * 2, none⟩ = some (.int .i32 l.1) ∧ w.cell? ⟨b, off + k * 2 + 1, none⟩ = some (.int .u32 l.2) := by
  have hl : k < ls.length := by have := h.len; omega
  have hi : ls[k]? = some ls[k] := List.getElem?_eq_getElem hl
  obtain ⟨b, off, hA, h1, h2⟩ := h.cells k _ hi
  exact ⟨b, off, _, hA, hi, h1, h2⟩

theorem drop_of_get {α : Type} {l : List α} {k : Nat} {x : α} (h : l[k]? = some x) : l.drop k = x :: l.drop (k + 1) := by
  obtain ⟨hk, rfl⟩ := List.getElem?_eq_some_iff.1 h
  exact List.drop_eq_getElem_cons hk
theorem take_next {α : Type} {l : List α} {k : Nat} {x : α} (h : l[k]? = some x) : l.take (k + 1) = l.take k ++ [x] := by
  rw [List.take_add_one, h]; rfl

theorem two_cells (w : World) (x y : Value) (t : TypeId) : (w.alloc (.cells #[x, y] t)).cell? ⟨w.heap.size, 0, none⟩ = some x ∧ (w.alloc (.cells #[x, y] t)).cell? ⟨w.heap.size, 1, none⟩ = some y := by
  constructor <;> simp
end Go.Proofs.YtfoeghabnbjbgaaDoor.Al

namespace Go.Proofs.YtfoeghabnbjbgaaDoor.Al
open Go.RowKit Go.Maps
open AlphPlain

theorem lawR : Keyed Tryd.prog 21 := int_keyed Tryd.underlying21
theorem zeroI (w : World) : (zeroValue 3).run Tryd.prog w = .ok (.int .i64 0) w := by kernel_rfl
theorem run_makeMapR (n : Int) (w : World) : (Instr.makeMap 74 (some (.int .i64 n))).run Tryd.prog w = .ok (.map (some w.heap.size)) (w.alloc (.map #[] 0)) := by
  kernel_rfl

/-- Block Bm maps the runes of ls to their first indices. -/
structure PosIn (w : World) (Bm k : Nat) (D : DataW Unit) (ls : List Lt) : Prop where
  own : w.ownsMap Tryd.prog 21 (plainElem Tryd.prog 3) Bm k D
  has : ∀ r : Int, Maps.has D (.int .i32 r) = AlphPlain.has ls r
  pos : ∀ r : Int, D.atKey (.int .i32 r) (.lit (.int .i64 0)) = .lit (.int .i64 (AlphPlain.pos ls r : Nat))
  size : Maps.size D = cnt ls

theorem PosIn.aft {w w' : World} {Bm k : Nat} {D : DataW Unit} {ls : List Lt} (h : PosIn w Bm k D ls) (a : Aft w w') : PosIn w' Bm k D ls := by
  refine ⟨?_, h.has, h.pos, h.size⟩
  have hlt := h.own.lt
  obtain ⟨es, clock, hb, r⟩ := h.own
  exact ⟨es, clock, (Below.block a Bm hlt).trans hb, r⟩

theorem PosIn.run {w : World} {Bm k : Nat} {D : DataW Unit} {ls : List Lt} (h : PosIn w Bm k D ls) {r : Int} (hr : (Lit.int .i32 r).wf = true) :
    (Instr.lookup 74 (.map (some Bm)) (.int .i32 r) true).run Tryd.prog w = .ok (.tuple #[.int .i64 (AlphPlain.pos ls r : Nat), .bool (AlphPlain.has ls r)]) w := by
  obtain ⟨v, ps, hrun, hv⟩ := h.own.look_ok lawR Tryd.underlying74 (zeroI w) (plainElem_int Tryd.underlying3 (by decide)) (keyOf_int_mk Tryd.underlying21 hr)
  rw [h.pos] at hv
  obtain ⟨c, rfl, hc, _⟩ := plainElem_int_inv Tryd.underlying3 hv
  simp at hc
  rw [hrun, h.has, hc.1]

theorem PosIn.old {w : World} {Bm k : Nat} {D : DataW Unit} {ls : List Lt} (h : PosIn w Bm k D ls) {l : Lt} (hl : AlphPlain.has ls l.1 = true) : PosIn w Bm (k + 1) D (ls ++ [l]) := by
  refine ⟨h.own.mono (by omega), fun r => ?_, fun r => ?_, ?_⟩
  · rw [h.has, has_snoc]
    by_cases e : l.1 = r
    · subst e; simp [hl]
    · simp [e]
  · rw [h.pos]
    unfold AlphPlain.pos
    rw [idx_snoc]
    cases k : idx ls r with
    | none =>
      by_cases e : l.1 = r
      · subst e; unfold AlphPlain.has at hl; rw [k] at hl; cases hl
      · simp [e]
    | some i => rfl
  · rw [h.size, cnt_snoc, if_pos hl]

theorem PosIn.new {w w' : World} {Bm k : Nat} {D : DataW Unit} {ls : List Lt} (h : PosIn w Bm k D ls) {l : Lt} (hl : AlphPlain.has ls l.1 = false) (hn : ls.length = k)
    (own' : w'.ownsMap Tryd.prog 21 (plainElem Tryd.prog 3) Bm (k + 1) (D.put (.int .i32 l.1) (.lit (.int .i64 (k : Nat))))) : PosIn w' Bm (k + 1) (D.put (.int .i32 l.1) (.lit (.int .i64 (k : Nat)))) (ls ++ [l]) := by
  have hnone : idx ls l.1 = none := by unfold AlphPlain.has at hl; cases e : idx ls l.1 <;> simp_all
  refine ⟨own', fun r => ?_, fun r => ?_, ?_⟩
  · by_cases e : r = l.1
    · subst e
      rw [has_put_same h.own.isMap (by simp [WideAt.IsKeyLit]), has_snoc]
      simp
    · rw [has_put_other (fun k => e (by simpa using k)), h.has, has_snoc]
      simp [Ne.symm e]
  · by_cases e : r = l.1
    · subst e
      rw [atKey_put_same h.own.isMap (by simp [WideAt.IsKeyLit])]
      unfold AlphPlain.pos
      rw [idx_snoc, hnone]
      simp [hn]
    · rw [atKey_put_other (fun k => e (by simpa using k)), h.pos]
      unfold AlphPlain.pos
      rw [idx_snoc]
      cases idx ls r <;> simp [Ne.symm e]
  · rw [size_put (h.own.tidy lawR), h.has, h.size, cnt_snoc]

def PosPost (w : World) (ls : List Lt) (e : Ending) (w' : World) : Prop := ∃ Bm k D, e = .returned (.map (some Bm)) ∧ PosIn w' Bm k D ls ∧ Aft w w'

set_option maxRecDepth 100000 in
set_option maxHeartbeats 800000 in
theorem positions_any (A : Option Addr) (n c : Nat) (ls : List Lt) (w : World) (ha : Ll w A n c ls) :
    Calls Tryd.prog 42 #[.slice A n c] w (PosPost w ls) := by
  have hn := ha.max
  have hnc := ha.le
  have hlen := Lib.hid ha.len
  have hmm := run_makeMapR
  go_enter Tryd.func42, Tryd.ntmps42
  go_wp2
  go_loopw [13] (fun i wr => ∃ k D, k ≤ n ∧ i = .int .i64 (k : Nat) ∧ PosIn wr w.heap.size k D (ls.take k) ∧ Aft w wr) (fun i _ => n - (intOf i).toNat)
  case atStart => exact ⟨0, .map [], Nat.zero_le _, rfl, ⟨World.ownsMap_made _ _ _ _, fun r => rfl, fun r => rfl, rfl⟩, (Aft.refl _).alloc _⟩
  case round =>
    obtain ⟨k, D, hk, rfl, hset, haf⟩ := hrel
    have HS := Lib.hid hset
    clear hset
    by_cases hlt : k < n
    · obtain ⟨b, off, l, rfl, hf, h1, h2⟩ := ha.at_ hlt
      have c1 := haf.cell h1
      have c2 := haf.cell h2
      have hw1 := (ha.wf l (List.mem_of_getElem? hf)).1
      have HF := Lib.hid hf
      have HA := Lib.hid haf
      have hr := fun o => (HS.out.aft ((Aft.refl _).alloc o)).run hw1
      have htk : (ls.take k).length = k := by rw [List.length_take, hlen.out]; omega
      have HK := Lib.hid htk
      clear hf h1 h2 haf htk
      cases hh : AlphPlain.has (ls.take k) l.1
      · rw [hh] at hr
        have HH := Lib.hid hh
        clear hh
        go_wp2_with (at_mapUpdate; refine wpList_mapUpdate_own _ rfl _ _ _ 74 rfl 21 3 lawR Tryd.underlying74 _ w.heap.size k D rfl (HS.out.own.alloc _) (by unfold maxLen; omega) _ _ _ rfl rfl (keyOf_int_mk Tryd.underlying21 hw1) _ [] (plainElem_int Tryd.underlying3 (WalkArith.wf_i64 (by omega))) ?_; intro w1 own1 grow1)
        go_roundw
        case rel => exact ⟨k + 1, _, by omega, by go_num, by rw [take_next HF.out]; exact HS.out.new HH.out HK.out own1, (HA.out.alloc _).grown grow1 (fun j hj => by cases hj; exact Nat.le_refl _)⟩
        case measure => simp [intOf]; omega
      · rw [hh] at hr
        have HH := Lib.hid hh
        clear hh
        go_wp2
        go_roundw
        case rel => exact ⟨k + 1, D, by omega, by go_num, by rw [take_next HF.out]; exact (HS.out.old HH.out).aft ((Aft.refl _).alloc _), HA.out.alloc _⟩
        case measure => simp [intOf]; omega
    · obtain rfl : k = n := by omega
      go_wp2
      go_ret
      have hs := HS.out
      rw [List.take_of_length_le (by rw [hlen.out]; exact Nat.le_refl _)] at hs
      exact ⟨_, _, _, rfl, hs, haf⟩
end Go.Proofs.YtfoeghabnbjbgaaDoor.Al

namespace Go.Proofs.YtfoeghabnbjbgaaDoor.Al
open Go.RowKit
open AlphPlain

/-- The index of the first letter with a rune, or -1. -/
def idxI (ls : List Lt) (r : Int) : Int := if AlphPlain.has ls r then ((pos ls r : Nat) : Int) else -1

theorem pos_get {ls : List Lt} {r : Int} (h : AlphPlain.has ls r = true) : ∃ l, ls[pos ls r]? = some l ∧ l.1 = r := by
  unfold AlphPlain.has at h
  unfold pos
  cases e : idx ls r with
  | none => rw [e] at h; cases h
  | some i => exact idx_lt e

/-- The classes of the first letter with a rune, or 0. -/
def clsOf (ls : List Lt) (r : Int) : Int := if AlphPlain.has ls r then (ls.getD (pos ls r) (0, 0)).2 else 0

/-- Is it a rune that UTF-8 can write? -/
def okRune (r : Int) : Bool := (decide (0 ≤ r) && decide (r < 55296)) || (decide (57343 < r) && decide (r ≤ 1114111))

theorem validRune_any (r : Int) (w : World) :
    Calls Tryd.prog 41 #[.int .i32 r] w (fun e w' => e = .returned (.bool (okRune r)) ∧ w = w') := by
  by_cases h1 : 0 ≤ r <;> by_cases h2 : r < 55296 <;> by_cases h3 : 57343 < r <;> by_cases h4 : r ≤ 1114111 <;>
  · go_enter Tryd.func41, Tryd.ntmps41
    go_wp2
    go_ret
    exact ⟨by simp [okRune, h1, h2, h3, h4], rfl⟩

/-- Can it be a letter's rune? -/
def goodB (r : Int) : Bool := decide (32 < r) && okRune r
def validB (ls : List Lt) : Bool := decide (1 ≤ ls.length) && decide (ls.length ≤ 64) && ls.all (fun l => goodB l.1) && decide (cnt ls = ls.length)

theorem validB_bad {ls : List Lt} {l : Lt} {k : Nat} (h : ls[k]? = some l) (hb : goodB l.1 = false) : validB ls = false := by
  have : ls.all (fun l => goodB l.1) = false := by
    rw [List.all_eq_false]
    exact ⟨l, List.mem_of_getElem? h, by simp [hb]⟩
  simp [validB, this]
theorem validB_end {ls : List Lt} {n : Nat} (hl : ls.length = n) (h1 : ¬ n = 0) (h2 : ¬ 64 < n) (h : (ls.take n).all (fun l => goodB l.1) = true) : validB ls = decide (cnt ls = n) := by
  rw [List.take_of_length_le (by omega)] at h
  unfold validB
  rw [h, hl, decide_eq_true (show 1 ≤ n by omega), decide_eq_true (show n ≤ 64 by omega)]
  simp

set_option maxRecDepth 100000 in
set_option maxHeartbeats 1600000 in
theorem valid_any (A : Option Addr) (n c : Nat) (ls : List Lt) (w : World) (ha : Ll w A n c ls) :
    Calls Tryd.prog 18 #[.slice A n c] w (BoolPost w (validB ls)) := by
  have hn := ha.max
  have hnc := ha.le
  have hlen := Lib.hid ha.len
  by_cases h1 : n = 0
  · subst h1
    go_enter Tryd.func18, Tryd.ntmps18
    go_wp2
    go_ret
    exact ⟨by simp [validB, hlen.out], Aft.refl _⟩
  by_cases h2 : 64 < n
  · have h1' : ¬ (n : Int) = 0 := by omega
    have h2' : (64 : Int) < n := by omega
    go_enter Tryd.func18, Tryd.ntmps18
    go_wp2
    go_ret
    exact ⟨by simp [validB, hlen.out]; intro _ h; omega, Aft.refl _⟩
  have h1' : ¬ (n : Int) = 0 := by omega
  have h2' : ¬ (64 : Int) < n := by omega
  go_enter Tryd.func18, Tryd.ntmps18
  go_wp2
  go_loopw [15] (fun i wr => ∃ k, k ≤ n ∧ i = .int .i64 (k : Nat) ∧ (ls.take k).all (fun l => goodB l.1) = true ∧ Aft w wr) (fun i _ => n - (intOf i).toNat)
  case atStart => exact ⟨0, Nat.zero_le _, rfl, rfl, Aft.refl _⟩
  case round =>
    obtain ⟨k, hk, rfl, hall, haf⟩ := hrel
    have HA := Lib.hid hall
    clear hall
    by_cases hlt : k < n
    · obtain ⟨b, off, l, rfl, hf, g1, g2⟩ := ha.at_ hlt
      have c1 := haf.cell g1
      have c2 := haf.cell g2
      have HF := Lib.hid hf
      clear hf g1 g2
      by_cases h32 : l.1 ≤ 32
      · go_wp2
        go_ret
        exact ⟨by rw [validB_bad HF.out (by simp [goodB]; omega)]; rfl, haf.alloc _⟩
      · cases ho : okRune l.1
        · go_wp2_with fail
          have hv := validRune_any l.1
          rw [ho] at hv
          refine (hv _).mono ?_
          rintro e w1 ⟨rfl, rfl⟩
          clear hv
          go_wp2
          go_ret
          exact ⟨by rw [validB_bad HF.out (by simp [goodB, ho])]; rfl, haf.alloc _⟩
        · go_wp2_with fail
          have hv := validRune_any l.1
          rw [ho] at hv
          refine (hv _).mono ?_
          rintro e w1 ⟨rfl, rfl⟩
          clear hv
          go_wp2
          go_roundw
          case rel => exact ⟨k + 1, by omega, by go_num, by rw [take_next HF.out, List.all_append, HA.out]; simp [goodB, ho]; omega, haf.alloc _⟩
          case measure => simp [intOf]; omega
    · obtain rfl : k = n := by omega
      go_wp2_with fail
      refine (positions_any A k c ls wr (ha.aft haf)).mono ?_
      rintro e w1 ⟨Bm, j, D, rfl, hp, A1⟩
      have hl := fun ty => hp.own.len (t := 74) Tryd.underlying74 ty
      rw [hp.size] at hl
      go_wp2
      go_ret
      refine ⟨?_, haf.trans A1⟩
      rw [validB_end hlen.out h1 h2 HA.out]
      by_cases hc : cnt ls = k
      · simp [hc]
      · have hc' : ¬ (cnt ls : Int) = (k : Int) := by omega
        simp [hc, hc']

/-- The first letter with these classes. -/
def withCls : List Lt → Int → Option Int
  | [], _ => none
  | l :: a, c => if l.2 = c then some l.1 else withCls a c

/-- What is returned of an optional rune. -/
def optV (o : Option Int) : Value := match o with
  | some r => .tuple #[.int .i32 r, .bool true]
  | none => .tuple #[.int .i32 0, .bool false]

def partner (ls : List Lt) (r t : Int) : Option Int := if AlphPlain.has ls r then withCls ls (bits .xor .u32 (clsOf ls r) t) else none

end Go.Proofs.YtfoeghabnbjbgaaDoor.Al

namespace Go.Proofs.YtfoeghabnbjbgaaDoor.Al
open Go.RowKit
open AlphPlain

/-- THE SLICE '.slice A n c' HOLDS THE STRINGS ss. -/
structure Ss (w : World) (A : Option Addr) (n c : Nat) (ss : List ByteArray) : Prop where
  len : ss.length = n
  le : n ≤ c
  max : n * 16 ≤ 281474976710656
  cmax : c ≤ 9223372036854775807
  nl : A = none → c = 0
  cells : ∀ i s, ss[i]? = some s → ∃ b off, A = some ⟨b, off, none⟩ ∧ w.cell? ⟨b, off + i, none⟩ = some (.string s)

theorem Ss.aft {w w' : World} {A : Option Addr} {n c : Nat} {ss : List ByteArray} (h : Ss w A n c ss) (k : Aft w w') : Ss w' A n c ss :=
  ⟨h.len, h.le, h.max, h.cmax, h.nl, fun i f hi => by
    obtain ⟨b, off, hA, h1⟩ := h.cells i f hi
    exact ⟨b, off, hA, k.cell h1⟩⟩

theorem Ss.at_ {w : World} {A : Option Addr} {n c k : Nat} {ss : List ByteArray} (h : Ss w A n c ss) (hk : k < n) :
    ∃ b off s, A = some ⟨b, off, none⟩ ∧ ss[k]? = some s ∧ w.cell? ⟨b, off + k, none⟩ = some (.string s) := by
  have hl : k < ss.length := by have := h.len; omega
  have hi : ss[k]? = some ss[k] := List.getElem?_eq_getElem hl
  obtain ⟨b, off, hA, h1⟩ := h.cells k _ hi
  exact ⟨b, off, _, hA, hi, h1⟩

theorem Ss.nil {w : World} {A : Option Addr} {c : Nat} (hm : c ≤ 9223372036854775807) (hn : A = none → c = 0) : Ss w A 0 c [] := ⟨rfl, Nat.zero_le _, by omega, hm, hn, fun i f h => by simp at h⟩

def SsPost (w : World) (l : List ByteArray) (e : Ending) (w' : World) : Prop := (∃ A n c, e = .returned (.slice A n c) ∧ Ss w' A n c l) ∧ Aft w w'

def strV (l : List ByteArray) : List Value := l.map Value.string
theorem strV_append (a b : List ByteArray) : strV (a ++ b) = strV a ++ strV b := List.map_append
theorem strV_one (l : List ByteArray) : ∀ u ∈ strV l, u.oneCell' = true := by
  intro u hu
  obtain ⟨s, _, rfl⟩ := List.mem_map.1 hu
  rfl

theorem Ss.of_own {w : World} {base g n cap : Nat} {ss : List ByteArray} (h : w.ownsRow base 9 1 (.slice (some ⟨g, 0, none⟩) n cap) n (strV ss)) (hl : ss.length = n) (hle : n ≤ cap) (hm : n * 16 ≤ 281474976710656) :
    Ss w (some ⟨g, 0, none⟩) n cap ss :=
  ⟨hl, hle, hm, by rcases h.2 with ⟨e, _⟩ | ⟨g', cap', cur, e, _, _, _, hc, _⟩; (· cases e); (· cases e; unfold maxLen at hc; omega), fun e => (by cases e), fun i f hi => by
    have hlt : i < n := by have := (List.getElem?_eq_some_iff.1 hi).1; omega
    refine ⟨g, 0, rfl, ?_⟩
    rw [Nat.zero_add, h.cellAt _ (by omega)]
    simp [strV, hi]⟩

theorem Tryd.infoS : (Tryd.prog.info? 9).map (fun i => (i.zero, i.size, i.bytes)) = some (some (.string ByteArray.empty), 1, 16) := by kernel_rfl

theorem one_str (w : World) (s : ByteArray) : ∀ j u, (strV [s])[j]? = some u → (w.alloc (.cells #[.string s] 9)).cell? ((⟨w.heap.size, 0, none⟩ : Addr).add j) = some u := by
  intro j u hj
  match j, hj with
  | 0, hj => simp [strV] at hj; subst hj; simp [Addr.add]
  | j + 1, hj => simp [strV] at hj

theorem one_str2 (w : World) (s : ByteArray) (H : Nat) (h : w.heap.size = H) : ∀ j u, (strV [s])[j]? = some u → (w.alloc (.cells #[.string s] 9)).cell? ((⟨H, 0, none⟩ : Addr).add j) = some u := by
  subst h
  exact one_str w s

/-- The word with each of the letters behind it. -/
def spread (s : ByteArray) (ls : List Lt) : List ByteArray := ls.map fun l => s ++ Utf8.encode l.1
def longer (ws : List ByteArray) (ls : List Lt) : List ByteArray := ws.flatMap fun s => spread s ls

theorem longer_snoc (ws : List ByteArray) (s : ByteArray) (ls : List Lt) : longer (ws ++ [s]) ls = longer ws ls ++ spread s ls := by simp [longer]
theorem spread_snoc (s : ByteArray) (ls : List Lt) (l : Lt) : spread s (ls ++ [l]) = spread s ls ++ [s ++ Utf8.encode l.1] := by simp [spread]
theorem longer_length : ∀ (ws : List ByteArray) (ls : List Lt), (longer ws ls).length = ws.length * ls.length
  | [], ls => by simp [longer]
  | s :: ws, ls => by
    have := longer_length ws ls
    simp only [longer, List.flatMap_cons, List.length_append, spread, List.length_map, List.length_cons] at this ⊢
    rw [this, Nat.succ_mul]; omega

theorem encode_small (r : Int) : (Utf8.encode r).size ≤ 4 := by
  unfold Utf8.encode
  dsimp only
  generalize (if Utf8.valid r = true then r.toNat else Utf8.runeError) = c
  by_cases h1 : c < 128
  · rw [if_pos h1]; show 1 ≤ 4; omega
  · rw [if_neg h1]
    by_cases h2 : c < 2048
    · rw [if_pos h2]; show 2 ≤ 4; omega
    · rw [if_neg h2]
      by_cases h3 : c < 65536
      · rw [if_pos h3]; show 3 ≤ 4; omega
      · rw [if_neg h3]; show 4 ≤ 4; omega

theorem room {i j k n : Nat} (hi : i < k) (hj : j < n) : i * n + j + 1 ≤ k * n := by
  have : (i + 1) * n ≤ k * n := Nat.mul_le_mul_right n hi
  rw [Nat.succ_mul] at this
  omega

/-- The words of n letters; none if there would be more than 256. -/
def wordsN (ls : List Lt) : Nat → Option (List ByteArray)
  | 0 => some [⟨#[]⟩]
  | i + 1 => match wordsN ls i with
    | none => none
    | some ws => if ws.length * ls.length > 256 then none else some (longer ws ls)

theorem wordsN_none {ls : List Lt} {i : Nat} (h : wordsN ls i = none) : ∀ k, wordsN ls (i + k) = none
  | 0 => h
  | k + 1 => by show wordsN ls (i + k + 1) = none; rw [wordsN, wordsN_none h k]

def words (ls : List Lt) (n : Int) : List ByteArray := if validB ls && decide (0 ≤ n) && decide (n ≤ 40) then (wordsN ls n.toNat).getD [] else []

theorem wordsN_size {ls : List Lt} : ∀ {i : Nat} {ws : List ByteArray}, wordsN ls i = some ws → ws.length ≤ 256 ∧ ∀ s ∈ ws, s.size ≤ 4 * i
  | 0, ws, h => by cases h; exact ⟨by decide, fun s hs => by simp at hs; subst hs; exact Nat.le_refl _⟩
  | i + 1, ws, h => by
    rw [wordsN] at h
    cases e : wordsN ls i with
    | none => rw [e] at h; cases h
    | some vs =>
      rw [e] at h
      simp only at h
      split at h
      · cases h
      · cases h
        refine ⟨by rw [longer_length]; omega, fun s hs => ?_⟩
        obtain ⟨v, hv, hs⟩ := List.mem_flatMap.1 hs
        obtain ⟨l, _, rfl⟩ := List.mem_map.1 hs
        have h1 := (wordsN_size e).2 v hv
        have h2 := encode_small l.1
        rw [ByteArray.size_append]
        omega

end Go.Proofs.YtfoeghabnbjbgaaDoor.Al

namespace Go.Proofs.YtfoeghabnbjbgaaDoor.Al
open Go.RowKit
open AlphPlain

/-- What cmp.Compare returns of two numbers. -/
def sgn (a b : Int) : Int := if a < b then -1 else if b < a then 1 else 0

/-- Two different runes: letters by their indices, then all other runes by code point. -/
def cmpRunes (ls : List Lt) (r o : Int) : Int :=
  if AlphPlain.has ls r then (if AlphPlain.has ls o then sgn (pos ls r : Nat) (pos ls o : Nat) else -1) else (if AlphPlain.has ls o then 1 else sgn r o)

/-- s from pos on against t from q on (b: at least as many rounds as there are bytes left). -/
def cmpAt (ls : List Lt) (s t : ByteArray) : Nat → Nat → Nat → Int
  | 0, _, q => if q < t.size then -1 else 0
  | b + 1, p, q => if p < s.size then (if q < t.size then (if (Utf8.decode s p).1 = (Utf8.decode t q).1 then cmpAt ls s t b (p + (Utf8.decode s p).2) (q + (Utf8.decode t q).2) else cmpRunes ls (Utf8.decode s p).1 (Utf8.decode t q).1) else 1)
      else if q < t.size then -1 else 0

theorem width_pos (s : ByteArray) (pos : Nat) (h : pos < s.size) : 1 ≤ (Utf8.decode s pos).2 := by
  by_cases ha : (s[pos]'h).toNat < 128
  · rw [decode_ascii s pos h ha]
    exact Nat.le_refl _
  · exact (decode_high s pos h (by omega)).2

theorem decode_wf (s : ByteArray) (pos : Nat) : (Lit.int .i32 ((Utf8.decode s pos).1 : Nat)).wf = true := by
  have := decode_le s pos
  exact WalkArith.wf_i32 (by omega)

abbrev Tabs (w : World) : Prop := Lib.Utf8Tabs 0 1 w
theorem tabs_aft {w w' : World} (h : Tabs w) (a : Aft w w') : Tabs w' := ⟨fun c hc => a.cell (h.1 c hc), fun i hi => ⟨a.cell (h.2 i hi).1, a.cell (h.2 i hi).2⟩⟩

theorem ext_size (t : ByteArray) (q : Nat) : (t.extract q t.size).size = t.size - q := by rw [ByteArray.size_extract]; omega
theorem ext_ext (t : ByteArray) (q m : Nat) : (t.extract q t.size).extract m (t.extract q t.size).size = t.extract (q + m) t.size := by
  rw [ext_size]
  apply ByteArray.ext
  rw [ByteArray.data_extract, ByteArray.data_extract, ByteArray.data_extract, Array.extract_extract]
  have e : min (q + (t.size - q)) t.size = t.size := by omega
  rw [e]
theorem toList_ne {T : ByteArray} (h : 0 < T.size) : T.toList.isEmpty = false := by
  rw [ByteArray.toList_eq]
  cases e : T.data.toList with
  | nil =>
    exfalso
    have : T.data.toList.length = 0 := by rw [e]; rfl
    rw [Array.length_toList] at this
    exact absurd h (by show ¬ 0 < T.data.size; omega)
  | cons a l => rfl
theorem ext_empty (t : ByteArray) (q : Nat) (h : ¬ q < t.size) : t.extract q t.size = ByteArray.mk #[] := by
  apply ByteArray.ext
  apply Array.ext'
  have : (t.extract q t.size).size = 0 := by rw [ext_size]; omega
  have h2 : (t.extract q t.size).data.toList.length = 0 := by rw [Array.length_toList]; exact this
  rw [List.length_eq_zero_iff.1 h2]
theorem decodeGo_ext (t : ByteArray) (q : Nat) (h : q < t.size) : Lib.decodeGo (t.extract q t.size) = Utf8.decode t q := by
  unfold Lib.decodeGo
  rw [if_neg (by rw [ext_size]; omega), Lib.tail_decode]
  rfl
theorem decode_fits (t : ByteArray) (q : Nat) (h : q < t.size) : q + (Utf8.decode t q).2 ≤ t.size := by
  have := Lib.decodeGo_le_size (t.extract q t.size)
  rw [decodeGo_ext t q h, ext_size] at this
  omega

theorem iter_aft {w wr : World} (h : Aft w wr) {k : Nat} (hk : w.heap.size ≤ k) (s : ByteArray) (p : Nat) : Aft w (wr.iterAt k s p) := Lib.below_iterAt h hk s p

/-- Compare. -/
def cmpL (ls : List Lt) (s t : ByteArray) : Int := cmpAt ls s t s.size 0 0

end Go.Proofs.YtfoeghabnbjbgaaDoor.Al

namespace Go.Proofs.YtfoeghabnbjbgaaDoor.Al
open Go.RowKit
open AlphPlain

/-- Every byte of s is below 128. -/
def Ascii (s : ByteArray) : Prop := ∀ i (h : i < s.size), (s[i]'h).toNat < 128

def strLen : Value → Nat
  | .string x => x.size
  | _ => 0

set_option maxRecDepth 100000 in
set_option maxHeartbeats 1600000 in
theorem validShort_any (s : ByteArray) (w : World) (ha : Ascii s) (h8 : s.size ≤ 8) :
    Calls Tryd.prog 44 #[.string s] w (BoolPost w true) := by
  go_enter Tryd.func44, Tryd.ntmps44
  go_wp2
  go_loopw [0] (fun v wr => ∃ (p : Nat), v = .string (s.extract p s.size) ∧ p ≤ s.size ∧ Aft w wr) (fun v _ => strLen v)
  case atStart => exact ⟨0, by simp, Nat.zero_le _, Aft.refl _⟩
  case round =>
    obtain ⟨p, rfl, hp, haf⟩ := hrel
    by_cases hlt : p < s.size
    · have hsz := ext_size s p
      have hpos : 0 < (s.extract p s.size).size := by omega
      have hb : ((s.extract p s.size)[0]'hpos).toNat < 128 := by
        have : (s.extract p s.size)[0]'hpos = s[p]'hlt := by
          rw [ByteArray.getElem_extract]; simp
        rw [this]; exact ha p hlt
      have hext := ext_ext s p 1
      generalize s.extract p s.size = T at *
      have HX := Lib.hid hext
      clear hext
      go_wp2
      go_roundw
      case rel => exact ⟨p + 1, by rw [← HX.out, hsz], by omega, haf⟩
      case measure => simp only [strLen]; rw [ByteArray.size_extract]; omega
    · have hsz := ext_size s p
      have hz : (s.extract p s.size).size = 0 := by omega
      clear hsz
      generalize s.extract p s.size = T at *
      go_wp2
      go_ret
      exact ⟨rfl, haf⟩

/-- All runes of s from p on are letters (b: at least as many rounds as there are bytes left). -/
def allAt (ls : List Lt) (s : ByteArray) : Nat → Nat → Bool
  | 0, _ => true
  | b + 1, p => if p < s.size then AlphPlain.has ls (Utf8.decode s p).1 && allAt ls s b (p + (Utf8.decode s p).2) else true

def isWordB (ls : List Lt) (s : ByteArray) (v : Bool) : Bool := v && decide (Lib.runeCount s ≤ 40) && allAt ls s s.size 0

set_option maxRecDepth 100000 in
set_option maxHeartbeats 1600000 in
theorem isWord_of (A : Option Addr) (n c : Nat) (ls : List Lt) (s : ByteArray) (v : Bool) (w : World) (ha : Ll w A n c ls) (hs : s.size < 9223372036854775807)
    (hv : Calls Tryd.prog 44 #[.string s] w (BoolPost w v)) :
    Calls Tryd.prog 20 #[.slice A n c, .string s] w (BoolPost w (isWordB ls s v)) := by
  cases v
  · go_enter Tryd.func20, Tryd.ntmps20
    go_wp2_with fail
    refine hv.mono ?_
    rintro e w1 ⟨rfl, A1⟩
    clear hv
    go_wp2
    go_ret
    exact ⟨by simp [isWordB], A1⟩
  · by_cases h40 : Lib.runeCount s ≤ 40
    · have h40' : ((Lib.runeCount s : Nat) : Int) ≤ 40 := by omega
      have HW := Lib.hid (show isWordB ls s true = allAt ls s s.size 0 by simp [isWordB, h40])
      go_enter Tryd.func20, Tryd.ntmps20
      go_wp2_with fail
      refine hv.mono ?_
      rintro e w1 ⟨rfl, A1⟩
      clear hv
      go_wp2_with fail
      refine (Tryd.utf8_RuneCountInString s w1 hs).mono ?_
      rintro e w2 ⟨rfl, ps, rfl⟩
      have A2 : Aft w (w1.iter s ps) := A1.alloc _
      generalize w1.iter s ps = w2 at *
      generalize Lib.runeCount s = RC at *
      go_wp2_with fail
      refine (positions_any A n c ls w2 (ha.aft A2)).mono ?_
      rintro e w3 ⟨Bm, k, D, rfl, hp, A3⟩
      have A3' := A2.trans A3
      go_wp2
      go_loopw [7] (fun _ wr => ∃ (p b : Nat), wr.heap[w3.heap.size]? = some (.stringIter s p) ∧ allAt ls s s.size 0 = allAt ls s b p ∧ s.size ≤ p + b ∧ Aft w3 wr) (fun _ wr => s.size - wr.iterPos w3.heap.size)
      case atStart => exact ⟨0, s.size, World.iter_heap _ _ _, rfl, by omega, (Aft.refl _).alloc _⟩
      case round =>
        obtain ⟨p, b, hit, he, hb, haf⟩ := hrel
        have HE := Lib.hid he
        clear he
        by_cases hlt : p < s.size
        · have hnx := fun ty => Lib.run_next_any_at (P := Tryd.prog) wr w3.heap.size s p ty hit hlt
          have hwp := width_pos s p hlt
          have hwf1 := decode_wf s p
          obtain ⟨b, rfl⟩ : ∃ b', b = b' + 1 := ⟨b - 1, by omega⟩
          have he1 := HE.out
          rw [allAt, if_pos hlt] at he1
          have af1 := iter_aft haf (Nat.le_refl _) s (p + (Utf8.decode s p).2)
          have it1 := Lib.iterAt_heap wr w3.heap.size s p (p + (Utf8.decode s p).2) hit
          have hl := (hp.aft af1).run hwf1
          clear HE
          generalize Utf8.decode s p = ds at *
          cases hh : AlphPlain.has ls ds.1
          · rw [hh] at hl he1
            have HE := Lib.hid he1
            clear he1 it1
            go_wp2
            go_ret
            exact ⟨by rw [HW.out, HE.out]; rfl, A3'.trans af1⟩
          · rw [hh] at hl he1
            have HE := Lib.hid he1
            have HI := Lib.hid it1
            clear he1 it1
            go_wp2
            go_roundw
            case rel => exact ⟨p + ds.2, b, HI.out, by rw [HE.out]; rfl, by omega, af1⟩
            case measure =>
              simp only [World.iterPos, HI.out, hit]
              omega
        · have hnx := fun ty => Lib.run_next_end_at (P := Tryd.prog) wr w3.heap.size s p ty hit hlt
          have he1 : allAt ls s s.size 0 = true := by
            rw [HE.out]
            cases b with
            | zero => rfl
            | succ b => rw [allAt, if_neg hlt]
          have H2 := Lib.hid he1
          clear HE he1
          go_wp2
          go_ret
          exact ⟨by rw [HW.out, H2.out]; rfl, A3'.trans haf⟩
    · have h40' : ¬ ((Lib.runeCount s : Nat) : Int) ≤ 40 := by omega
      have HW := Lib.hid (show isWordB ls s true = false by simp [isWordB, h40])
      go_enter Tryd.func20, Tryd.ntmps20
      go_wp2_with fail
      refine hv.mono ?_
      rintro e w1 ⟨rfl, A1⟩
      clear hv
      go_wp2_with fail
      refine (Tryd.utf8_RuneCountInString s w1 hs).mono ?_
      rintro e w2 ⟨rfl, ps, rfl⟩
      have A2 : Aft w (w1.iter s ps) := A1.alloc _
      generalize w1.iter s ps = w2 at *
      generalize Lib.runeCount s = RC at *
      go_wp2
      go_ret
      exact ⟨by rw [HW.out]; rfl, A2⟩
end Go.Proofs.YtfoeghabnbjbgaaDoor.Al

namespace Go.Proofs.YtfoeghabnbjbgaaDoor.Al
open Go.RowKit
open AlphPlain

theorem goodB_cases (r : Int) : goodB r = (decide (32 < r) && decide (r ≤ 1114111) && (decide (r < 55296) || decide (57343 < r))) := by
  unfold goodB okRune
  by_cases h1 : 32 < r <;> by_cases h2 : r ≤ 1114111 <;> by_cases h3 : r < 55296 <;> by_cases h4 : 57343 < r <;> by_cases h5 : 0 ≤ r <;> simp [h1, h2, h3, h4, h5] <;> omega

theorem idx_drop {ls : List Lt} {r : Int} {k : Nat} {l : Lt} (hn : ∀ j m, j < k → ls[j]? = some m → m.1 ≠ r) (hk : ls[k]? = some l) (e : l.1 = r) : idx ls r = some k := by
  cases h : idx ls r with
  | none =>
    exfalso
    obtain ⟨j, hj, _⟩ := idx_le hk
    rw [e, h] at hj; cases hj
  | some i =>
    obtain ⟨m, hm, he⟩ := idx_lt h
    obtain ⟨j, hj, hle⟩ := idx_le hk
    rw [e, h] at hj
    cases hj
    rcases Nat.lt_or_ge i k with hlt | hge
    · exact absurd he (hn i m hlt hm)
    · have : i = k := by omega
      rw [this]
theorem idx_absent {ls : List Lt} {r : Int} (hn : ∀ j m, j < ls.length → ls[j]? = some m → m.1 ≠ r) : idx ls r = none := by
  cases h : idx ls r with
  | none => rfl
  | some i =>
    obtain ⟨m, hm, he⟩ := idx_lt h
    exact absurd he (hn i m (List.getElem?_eq_some_iff.1 hm).1 hm)
theorem idxI_some {ls : List Lt} {r : Int} {k : Nat} (h : idx ls r = some k) : idxI ls r = k := by simp [idxI, AlphPlain.has, pos, h]
theorem idxI_none {ls : List Lt} {r : Int} (h : idx ls r = none) : idxI ls r = -1 := by simp [idxI, AlphPlain.has, h]

theorem validB_dup {ls : List Lt} {k : Nat} {l : Lt} (hk : ls[k]? = some l) (h : idx ls l.1 ≠ some k) : validB ls = false := by
  unfold validB
  have : ¬ cnt ls = ls.length := fun e => h ((cnt_dist _ _ rfl).1 e k l hk)
  simp [this]
theorem validB_all {ls : List Lt} {n : Nat} (hl : ls.length = n) (h1 : ¬ n = 0) (h2 : ¬ 64 < n) (h : ∀ j l, j < n → ls[j]? = some l → goodB l.1 = true ∧ idx ls l.1 = some j) : validB ls = true := by
  have hall : ls.all (fun l => goodB l.1) = true := by
    rw [List.all_eq_true]
    intro l hm
    obtain ⟨j, hj⟩ := List.getElem?_of_mem hm
    exact (h j l (by have := (List.getElem?_eq_some_iff.1 hj).1; omega) hj).1
  have hd : Dist ls := fun i l hi => (h i l (by have := (List.getElem?_eq_some_iff.1 hi).1; omega) hi).2
  have hc := (cnt_dist _ _ rfl).2 hd
  unfold validB
  rw [hall, hl, decide_eq_true (show 1 ≤ n by omega), decide_eq_true (show n ≤ 64 by omega), hc, hl]
  simp

end Go.Proofs.YtfoeghabnbjbgaaDoor.Al

namespace Go.Proofs.YtfoeghabnbjbgaaDoor.Al
open Go.RowKit
open AlphPlain

/-- THE SLICE '.slice A n c' HOLDS THE RUNES rs. -/
structure Rr (w : World) (A : Option Addr) (n c : Nat) (rs : List Int) : Prop where
  len : rs.length = n
  le : n ≤ c
  nl : A = none → c = 0
  cells : ∀ i r, rs[i]? = some r → ∃ b off, A = some ⟨b, off, none⟩ ∧ w.cell? ⟨b, off + i, none⟩ = some (.int .i32 r)

theorem Rr.aft {w w' : World} {A : Option Addr} {n c : Nat} {rs : List Int} (h : Rr w A n c rs) (k : Aft w w') : Rr w' A n c rs :=
  ⟨h.len, h.le, h.nl, fun i f hi => by
    obtain ⟨b, off, hA, h1⟩ := h.cells i f hi
    exact ⟨b, off, hA, k.cell h1⟩⟩

def runV (l : List Int) : List Value := l.map (Value.int .i32)
theorem runV_append (a b : List Int) : runV (a ++ b) = runV a ++ runV b := List.map_append
theorem runV_one (l : List Int) : ∀ u ∈ runV l, u.oneCell' = true := by
  intro u hu
  obtain ⟨s, _, rfl⟩ := List.mem_map.1 hu
  rfl

theorem Rr.of_row {w : World} {base n : Nat} {v : Value} {rs : List Int} (h : w.ownsRow base 21 1 v n (runV rs)) (hl : rs.length = n) : ∃ A c, v = .slice A n c ∧ Rr w A n c rs := by
  rcases h.2 with ⟨rfl, rfl⟩ | ⟨g, cap, cur, rfl, _, _, hle, _, _⟩
  · have : rs = [] := List.length_eq_zero_iff.1 hl
    subst this
    exact ⟨none, 0, rfl, ⟨rfl, Nat.le_refl _, fun _ => rfl, fun i f h => by simp at h⟩⟩
  · refine ⟨_, _, rfl, ⟨hl, hle, fun e => (by cases e), fun i f hi => ?_⟩⟩
    have hlt : i < n := by have := (List.getElem?_eq_some_iff.1 hi).1; omega
    refine ⟨g, 0, rfl, ?_⟩
    rw [Nat.zero_add, h.cellAt _ (by omega)]
    simp [runV, hi]

/-- Has the letter all classes of the mask? -/
def hasM (k : Int) (l : Lt) : Bool := decide (bits .and .u32 l.2 k = k)
def selL (ls : List Lt) (k : Int) : List Int := (ls.filter (hasM k)).map (·.1)

theorem selL_step {ls : List Lt} {out : List Int} {k : Int} {j : Nat} {l : Lt} (h : selL ls k = out ++ selL (ls.drop j) k) (hl : ls[j]? = some l) : selL ls k = (out ++ if hasM k l then [l.1] else []) ++ selL (ls.drop (j + 1)) k := by
  rw [h, drop_of_get hl]
  unfold selL
  rw [List.filter_cons]
  cases hasM k l <;> simp

theorem Tryd.infoR : (Tryd.prog.info? 21).map (fun i => (i.zero, i.size, i.bytes)) = some (some (.int .i32 0), 1, 4) := by kernel_rfl
theorem one_run2 (w : World) (s : Int) (H : Nat) (h : w.heap.size = H) : ∀ j u, (runV [s])[j]? = some u → (w.alloc (.cells #[.int .i32 s] 21)).cell? ((⟨H, 0, none⟩ : Addr).add j) = some u := by
  subst h
  intro j u hj
  match j, hj with
  | 0, hj => simp [runV] at hj; subst hj; simp [Addr.add]
  | j + 1, hj => simp [runV] at hj
theorem rowR_lt {wo wr : World} {v : Value} {n : Nat} {l : List Value} (h : wr.ownsRow wo.heap.size 21 1 v n l) : ∀ g, v.ownBlock = some g → wo.heap.size ≤ g := fun g hg => (h.lt g hg).1

def RrPost (w : World) (l : List Int) (e : Ending) (w' : World) : Prop := (∃ A n c, e = .returned (.slice A n c) ∧ Rr w' A n c l) ∧ Aft w w'

end Go.Proofs.YtfoeghabnbjbgaaDoor.Al

namespace Go.Proofs.YtfoeghabnbjbgaaDoor.Al
open Go.RowKit
open AlphPlain

def beforeB (ls : List Lt) (r o : Int) : Bool :=
  if AlphPlain.has ls r then (if AlphPlain.has ls o then decide (pos ls r < pos ls o) else true) else (if AlphPlain.has ls o then false else decide (r < o))

theorem idxI_has {ls : List Lt} {r : Int} (h : AlphPlain.has ls r = true) : idxI ls r = (pos ls r : Nat) := by simp [idxI, h]
theorem idxI_not {ls : List Lt} {r : Int} (h : AlphPlain.has ls r = false) : idxI ls r = -1 := by simp [idxI, h]

theorem cmpRunes_before {ls : List Lt} {r o : Int} (h : r ≠ o) : cmpRunes ls r o = if beforeB ls r o then -1 else 1 := by
  unfold cmpRunes beforeB sgn
  cases hr : AlphPlain.has ls r
  · cases ho : AlphPlain.has ls o
    · by_cases h1 : r < o
      · simp [h1]
      · have h2 : o < r := by omega
        simp [h1, h2]
    · simp
  · cases ho : AlphPlain.has ls o
    · simp
    · have hne : pos ls r ≠ pos ls o := by
        intro e
        obtain ⟨l, hl, e1⟩ := pos_get hr
        obtain ⟨m, hm, e2⟩ := pos_get ho
        rw [e, hm] at hl
        cases hl
        exact h (e1.symm.trans e2)
      by_cases h1 : pos ls r < pos ls o
      · have h1' : ((pos ls r : Nat) : Int) < (pos ls o : Nat) := by omega
        simp [h1]
      · have h2' : pos ls o < pos ls r := by omega
        simp [h1, h2']

/-- The runes of s from p on (b: at least as many rounds as there are bytes left). -/
def runesL (s : ByteArray) : Nat → Nat → List Int
  | 0, _ => []
  | b + 1, p => if p < s.size then ((Utf8.decode s p).1 : Int) :: runesL s b (p + (Utf8.decode s p).2) else []
def runesOf (s : ByteArray) : List Int := runesL s s.size 0

theorem runesFrom_eq (s : ByteArray) : ∀ (b p : Nat) (acc : Array Value), Conv.runesFrom s b p acc = acc ++ (runV (runesL s b p)).toArray
  | 0, p, acc => by simp [Conv.runesFrom, runesL, runV]
  | b + 1, p, acc => by
    unfold Conv.runesFrom runesL
    split
    · show Conv.runesFrom s b (p + (Utf8.decode s p).2) (acc.push (.int .i32 (Int.ofNat (Utf8.decode s p).1))) = _
      rw [runesFrom_eq s b]
      simp [runV]
    · simp [runV]

def cmpLs (ls : List Lt) : List Int → List Int → Int
  | [], [] => 0
  | [], _ :: _ => -1
  | _ :: _, [] => 1
  | r :: x, o :: y => if r = o then cmpLs ls x y else cmpRunes ls r o

theorem runesL_end {s : ByteArray} {p : Nat} (h : ¬ p < s.size) : ∀ b, runesL s b p = []
  | 0 => rfl
  | b + 1 => by rw [runesL, if_neg h]

theorem cmpAt_runes (ls : List Lt) (s t : ByteArray) : ∀ (b c p q : Nat), s.size ≤ p + b → t.size ≤ q + c → cmpAt ls s t b p q = cmpLs ls (runesL s b p) (runesL t c q)
  | 0, c, p, q, hb, hc => by
    rw [cmpAt, runesL]
    by_cases hq : q < t.size
    · obtain ⟨c, rfl⟩ : ∃ c', c = c' + 1 := ⟨c - 1, by omega⟩
      rw [if_pos hq, runesL, if_pos hq]; rfl
    · rw [if_neg hq, runesL_end hq]; rfl
  | b + 1, c, p, q, hb, hc => by
    rw [cmpAt, runesL]
    by_cases hp : p < s.size
    · rw [if_pos hp, if_pos hp]
      by_cases hq : q < t.size
      · obtain ⟨c, rfl⟩ : ∃ c', c = c' + 1 := ⟨c - 1, by omega⟩
        have w1 := width_pos s p hp
        have w2 := width_pos t q hq
        rw [if_pos hq, runesL, if_pos hq, cmpLs]
        by_cases he : (Utf8.decode s p).1 = (Utf8.decode t q).1
        · rw [if_pos he, if_pos (by omega), cmpAt_runes ls s t b c _ _ (by omega) (by omega)]
        · rw [if_neg he, if_neg (by omega)]
      · rw [if_neg hq, runesL_end hq]; rfl
    · rw [if_neg hp, if_neg hp]
      by_cases hq : q < t.size
      · obtain ⟨c, rfl⟩ : ∃ c', c = c' + 1 := ⟨c - 1, by omega⟩
        rw [if_pos hq, runesL, if_pos hq]; rfl
      · rw [if_neg hq, runesL_end hq]; rfl

theorem cmpL_runes (ls : List Lt) (s t : ByteArray) : cmpL ls s t = cmpLs ls (runesOf s) (runesOf t) := cmpAt_runes ls s t _ _ 0 0 (by omega) (by omega)

/-- The world with the runes of s laid anew. -/
def convC (s : ByteArray) (w : World) : Nat := grownCap w (Conv.runesFrom s s.size 0 #[]).size 0 21
def convW (s : ByteArray) (w : World) : World := w.drew.alloc (.cells (Conv.runesFrom s s.size 0 #[] ++ Array.replicate (convC s w - (Conv.runesFrom s s.size 0 #[]).size) (.int .i32 0)) 21)

theorem runes_size (s : ByteArray) : (Conv.runesFrom s s.size 0 #[]).size = (runesOf s).length := by rw [runesFrom_eq]; simp [runV, runesOf]
theorem conv_aft (s : ByteArray) (w : World) : Aft w (convW s w) := Aft.alloc (Below.drew (Aft.refl w)) _
theorem cell_new (w : World) (cs : Array Value) (t : TypeId) (i : Nat) : (w.alloc (.cells cs t)).cell? ⟨w.heap.size, i, none⟩ = cs[i]? := by
  simp
theorem conv_rr (s : ByteArray) (w : World) : Rr (convW s w) (some ⟨w.heap.size, 0, none⟩) (runesOf s).length (convC s w) (runesOf s) := by
  refine ⟨rfl, ?_, fun e => (by cases e), fun i r hi => ⟨_, _, rfl, ?_⟩⟩
  · have := grownCap_ge w (Conv.runesFrom s s.size 0 #[]).size 0 21
    unfold convC
    rw [runes_size] at this ⊢
    exact this
  · have hlt := (List.getElem?_eq_some_iff.1 hi).1
    show (w.drew.alloc _).cell? ⟨w.drew.heap.size, 0 + i, none⟩ = _
    rw [Nat.zero_add, cell_new, runesFrom_eq, Array.getElem?_append_left (by simp [runV]; exact hlt)]
    simp only [runV, Array.empty_append, List.getElem?_toArray, List.getElem?_map]
    rw [show runesL s s.size 0 = runesOf s from rfl, hi]; rfl

theorem Rr.at_ {w : World} {A : Option Addr} {n c k : Nat} {rs : List Int} (h : Rr w A n c rs) (hk : k < n) :
    ∃ b off r, A = some ⟨b, off, none⟩ ∧ rs[k]? = some r ∧ w.cell? ⟨b, off + k, none⟩ = some (.int .i32 r) := by
  have hl : k < rs.length := by have := h.len; omega
  have hi : rs[k]? = some rs[k] := List.getElem?_eq_getElem hl
  obtain ⟨b, off, hA, h1⟩ := h.cells k _ hi
  exact ⟨b, off, _, hA, hi, h1⟩

/-- Are there few letters and few short strings? -/
def fewB (n : Nat) (ss : List ByteArray) : Bool := ss.all (fun s => decide (s.size ≤ 200)) && decide (n ≤ 70) && decide (ss.length ≤ 40)

end Go.Proofs.YtfoeghabnbjbgaaDoor.Al

namespace Go.Proofs.YtfoeghabnbjbgaaDoor.Al
open Go.RowKit
open AlphPlain

/-- The lexicographic order of lists of numbers. -/
def lexI : List Int → List Int → Int
  | [], [] => 0
  | [], _ :: _ => -1
  | _ :: _, [] => 1
  | a :: x, b :: y => if a = b then lexI x y else if a < b then -1 else 1

theorem lexI_range : ∀ x y, -1 ≤ lexI x y ∧ lexI x y ≤ 1
  | [], [] => by simp [lexI]
  | [], _ :: _ => by simp [lexI]
  | _ :: _, [] => by simp [lexI]
  | a :: x, b :: y => by
    rw [lexI]
    split
    · exact lexI_range x y
    · split <;> omega
theorem lexI_neg : ∀ x y, lexI y x = - lexI x y
  | [], [] => rfl
  | [], _ :: _ => rfl
  | _ :: _, [] => rfl
  | a :: x, b :: y => by
    rw [lexI, lexI]
    by_cases h : a = b
    · rw [if_pos h, if_pos h.symm]; exact lexI_neg x y
    · rw [if_neg h, if_neg (Ne.symm h)]
      by_cases h1 : a < b
      · rw [if_pos h1, if_neg (by omega)]; rfl
      · rw [if_neg h1, if_pos (by omega)]
theorem lexI_zero : ∀ x y, lexI x y = 0 ↔ x = y
  | [], [] => by simp [lexI]
  | [], _ :: _ => by simp [lexI]
  | _ :: _, [] => by simp [lexI]
  | a :: x, b :: y => by
    rw [lexI]
    by_cases h : a = b
    · rw [if_pos h, lexI_zero x y]; simp [h]
    · rw [if_neg h]
      constructor
      · intro e; split at e <;> omega
      · intro e; simp at e; exact absurd e.1 h
theorem lexI_trans : ∀ x y z, lexI x y ≤ 0 → lexI y z ≤ 0 → lexI x z ≤ 0
  | [], _, [], _, _ => by simp [lexI]
  | [], _, _ :: _, _, _ => by simp [lexI]
  | _ :: _, [], _, h, _ => by simp [lexI] at h
  | _ :: _, _ :: _, [], _, h => by simp [lexI] at h
  | a :: x, b :: y, c :: z, h, k => by
    rw [lexI] at h k ⊢
    by_cases h1 : a = b
    · subst h1
      rw [if_pos rfl] at h
      by_cases h2 : a = c
      · subst h2
        rw [if_pos rfl] at k ⊢
        exact lexI_trans x y z h k
      · rw [if_neg h2] at k ⊢; exact k
    · rw [if_neg h1] at h
      have hab : a < b := by
        by_cases e : a < b
        · exact e
        · rw [if_neg e] at h; omega
      by_cases h2 : b = c
      · subst h2
        rw [if_neg h1, if_pos hab]; omega
      · rw [if_neg h2] at k
        have hbc : b < c := by
          by_cases e : b < c
          · exact e
          · rw [if_neg e] at k; omega
        rw [if_neg (by omega), if_pos (by omega)]; omega

/-- Letters by their indices, before all other runes. -/
def key (ls : List Lt) (r : Int) : Int := if AlphPlain.has ls r then (pos ls r : Nat) - (ls.length : Int) else r

theorem pos_lt {ls : List Lt} {r : Int} (h : AlphPlain.has ls r = true) : pos ls r < ls.length := by
  obtain ⟨l, hl, _⟩ := pos_get h
  exact (List.getElem?_eq_some_iff.1 hl).1
theorem key_inj {ls : List Lt} {r o : Int} (h0 : 0 ≤ r) (h1 : 0 ≤ o) (h : key ls r = key ls o) : r = o := by
  unfold key at h
  cases hr : AlphPlain.has ls r <;> cases ho : AlphPlain.has ls o <;> rw [hr, ho] at h <;> simp at h
  · exact h
  · have := pos_lt ho; omega
  · have := pos_lt hr; omega
  · obtain ⟨l, hl, e1⟩ := pos_get hr
    obtain ⟨m, hm, e2⟩ := pos_get ho
    have : pos ls r = pos ls o := by omega
    rw [this, hm] at hl
    cases hl
    exact e1.symm.trans e2
theorem cmpRunes_key {ls : List Lt} {r o : Int} (h0 : 0 ≤ r) (h1 : 0 ≤ o) (hne : r ≠ o) : cmpRunes ls r o = if key ls r < key ls o then -1 else 1 := by
  have hk : key ls r ≠ key ls o := fun e => hne (key_inj h0 h1 e)
  unfold cmpRunes sgn
  unfold key at hk ⊢
  cases hr : AlphPlain.has ls r <;> cases ho : AlphPlain.has ls o <;> rw [hr, ho] at hk <;> simp at hk ⊢
  · by_cases h : r < o
    · simp [h]
    · simp [h]; omega
  · have := pos_lt ho
    omega
  · have := pos_lt hr
    omega
  · by_cases h : pos ls r < pos ls o
    · rw [if_pos h, if_pos (by omega)]
    · rw [if_neg h, if_pos (by omega), if_neg (by omega)]

theorem runesL_pos (s : ByteArray) : ∀ b p, ∀ r ∈ runesL s b p, 0 ≤ r
  | 0, _, r, h => by cases h
  | b + 1, p, r, h => by
    rw [runesL] at h
    split at h
    · rcases List.mem_cons.1 h with rfl | h
      · omega
      · exact runesL_pos s b _ r h
    · cases h
theorem cmpLs_key (ls : List Lt) : ∀ x y : List Int, (∀ r ∈ x, 0 ≤ r) → (∀ r ∈ y, 0 ≤ r) → cmpLs ls x y = lexI (x.map (key ls)) (y.map (key ls))
  | [], [], _, _ => rfl
  | [], _ :: _, _, _ => rfl
  | _ :: _, [], _, _ => rfl
  | r :: x, o :: y, hx, hy => by
    have h0 := hx r (by simp)
    have h1 := hy o (by simp)
    rw [cmpLs, List.map_cons, List.map_cons, lexI]
    by_cases h : r = o
    · subst h
      rw [if_pos rfl, if_pos rfl]
      exact cmpLs_key ls x y (fun a ha => hx a (by simp [ha])) (fun a ha => hy a (by simp [ha]))
    · rw [if_neg h, if_neg (fun e => h (key_inj h0 h1 e)), cmpRunes_key h0 h1 h]
theorem map_key_inj (ls : List Lt) : ∀ x y : List Int, (∀ r ∈ x, 0 ≤ r) → (∀ r ∈ y, 0 ≤ r) → x.map (key ls) = y.map (key ls) → x = y
  | [], [], _, _, _ => rfl
  | [], _ :: _, _, _, h => by simp at h
  | _ :: _, [], _, _, h => by simp at h
  | r :: x, o :: y, hx, hy, h => by
    simp only [List.map_cons, List.cons.injEq] at h
    rw [key_inj (hx r (by simp)) (hy o (by simp)) h.1, map_key_inj ls x y (fun a ha => hx a (by simp [ha])) (fun a ha => hy a (by simp [ha])) h.2]

/-- No U+FFFD from p on but where its three bytes stand. -/
def okAt (s : ByteArray) (p : Nat) : Bool := if (Utf8.decode s p).1 = 65533 then decide (p + 3 ≤ s.size) && decide (s.extract p (p + 3) = ⟨#[239, 191, 189]⟩) else true
def utfAt (s : ByteArray) : Nat → Nat → Bool
  | 0, _ => true
  | b + 1, p => if p < s.size then okAt s p && utfAt s b (p + (Utf8.decode s p).2) else true

theorem okAt_enc {s : ByteArray} {p : Nat} (hp : p < s.size) (h : okAt s p = true) : Lib.encodeRune ((Utf8.decode s p).1 : Int) = (s.data.toList.drop p).take (Utf8.decode s p).2 := by
  have hl : s.data.toList.length = s.size := Array.length_toList
  have hne : s.data.toList.drop p ≠ [] := by
    intro e
    have := congrArg List.length e
    simp [List.length_drop] at this
    have : s.data.size = s.size := rfl
    omega
  rw [← Lib.decodeL_drop]
  refine Lib.encode_decode _ hne ?_
  rintro ⟨e1, e2⟩
  rw [Lib.decodeL_drop] at e1 e2
  unfold okAt at h
  rw [if_pos e1] at h
  simp only [Bool.and_eq_true, decide_eq_true_eq] at h
  obtain ⟨h3, hx⟩ := h
  have hb : (s.data.toList.drop p).take 3 = [239, 191, 189] := by
    have := congrArg (fun z : ByteArray => z.data.toList) hx
    simp only [ByteArray.data_extract, Array.toList_extract, List.extract_eq_take_drop] at this
    simpa using this
  rw [← Lib.decodeL_drop] at e2
  generalize hL : s.data.toList.drop p = L at hb e2
  match L, hb with
  | a :: b :: c :: r, hb =>
    simp at hb
    obtain ⟨rfl, rfl, rfl⟩ := hb
    rw [Lib.decodeL_N] at e2
    simp [Lib.decodeN] at e2
  | [], hb => simp at hb
  | [_], hb => simp at hb
  | [_, _], hb => simp at hb

theorem drop_end {s : ByteArray} {p : Nat} (h : ¬ p < s.size) : s.data.toList.drop p = [] := List.drop_of_length_le (by rw [Array.length_toList]; exact Nat.le_of_not_lt h)
theorem len_take {s : ByteArray} {p : Nat} (h : p < s.size) : ((s.data.toList.drop p).take (Utf8.decode s p).2).length = (Utf8.decode s p).2 := by
  have := decode_fits s p h
  rw [List.length_take, List.length_drop, Array.length_toList]
  have e : s.data.size = s.size := rfl
  omega

theorem utf_inj (s t : ByteArray) : ∀ (b c p q : Nat), s.size ≤ p + b → t.size ≤ q + c → utfAt s b p = true → utfAt t c q = true → runesL s b p = runesL t c q → s.data.toList.drop p = t.data.toList.drop q
  | 0, c, p, q, hb, hc, _, _, h => by
    rw [drop_end (by omega)]
    by_cases hq : q < t.size
    · obtain ⟨c, rfl⟩ : ∃ c', c = c' + 1 := ⟨c - 1, by omega⟩
      rw [runesL, runesL, if_pos hq] at h
      cases h
    · rw [drop_end hq]
  | b + 1, c, p, q, hb, hc, hu, hv, h => by
    by_cases hp : p < s.size
    · rw [runesL, if_pos hp] at h
      rw [utfAt, if_pos hp, Bool.and_eq_true] at hu
      by_cases hq : q < t.size
      · obtain ⟨c, rfl⟩ : ∃ c', c = c' + 1 := ⟨c - 1, by omega⟩
        rw [runesL, if_pos hq] at h
        rw [utfAt, if_pos hq, Bool.and_eq_true] at hv
        simp only [List.cons.injEq] at h
        have e1 := okAt_enc hp hu.1
        have e2 := okAt_enc hq hv.1
        rw [h.1] at e1
        have et := e1.symm.trans e2
        have ew : (Utf8.decode s p).2 = (Utf8.decode t q).2 := by rw [← len_take hp, ← len_take hq, et]
        have w1 := width_pos s p hp
        have ih := utf_inj s t b c _ _ (by omega) (by omega) hu.2 hv.2 h.2
        rw [← List.take_append_drop (Utf8.decode s p).2 (s.data.toList.drop p), ← List.take_append_drop (Utf8.decode t q).2 (t.data.toList.drop q), et, List.drop_drop, List.drop_drop, ih]
      · rw [runesL_end hq] at h; cases h
    · rw [drop_end hp]
      rw [runesL_end hp] at h
      by_cases hq : q < t.size
      · obtain ⟨c, rfl⟩ : ∃ c', c = c' + 1 := ⟨c - 1, by omega⟩
        rw [runesL, if_pos hq] at h
        cases h
      · rw [drop_end hq]

def utfB (s : ByteArray) : Bool := utfAt s s.size 0
theorem runes_inj {s t : ByteArray} (hs : utfB s = true) (ht : utfB t = true) (h : runesOf s = runesOf t) : s = t := by
  have := utf_inj s t _ _ 0 0 (by omega) (by omega) hs ht h
  simp only [List.drop_zero] at this
  exact WideShapes.bytes_inj this

theorem slice3 (s : ByteArray) (p : Nat) (h : p + 3 ≤ s.size) (w : World) : (Instr.slice 9 (.string s) (some (.int .i64 (p : Int))) (some (.int .i64 ((p : Int) + 3))) none).run Tryd.prog w = .ok (.string (s.extract p (p + 3))) w := by
  have e := run_slice_string (P := Tryd.prog) (w := w) 9 s .i64 .i64 (p : Int) ((p : Int) + 3) Tryd.underlying9 (by omega) (by omega) (by omega)
  rw [e]
  rfl

theorem cmpL_key (ls : List Lt) (s t : ByteArray) : cmpL ls s t = lexI ((runesOf s).map (key ls)) ((runesOf t).map (key ls)) := by
  rw [cmpL_runes]
  exact cmpLs_key ls _ _ (runesL_pos s _ _) (runesL_pos t _ _)
theorem ord_range (ls : List Lt) (s t : ByteArray) : cmpL ls s t = -1 ∨ cmpL ls s t = 0 ∨ cmpL ls s t = 1 := by
  have := lexI_range ((runesOf s).map (key ls)) ((runesOf t).map (key ls))
  rw [cmpL_key]
  omega
theorem ord_neg (ls : List Lt) (s t : ByteArray) : cmpL ls t s = - cmpL ls s t := by rw [cmpL_key, cmpL_key, lexI_neg]
theorem ord_zero {ls : List Lt} {s t : ByteArray} (hs : utfB s = true) (ht : utfB t = true) (h : cmpL ls s t = 0) : s = t := by
  rw [cmpL_key, lexI_zero] at h
  exact runes_inj hs ht (map_key_inj ls _ _ (runesL_pos s _ _) (runesL_pos t _ _) h)
theorem ord_refl (ls : List Lt) (s : ByteArray) : cmpL ls s s = 0 := by rw [cmpL_key, lexI_zero]
theorem ord_trans {ls : List Lt} {s t u : ByteArray} (h : cmpL ls s t ≤ 0) (k : cmpL ls t u ≤ 0) : cmpL ls s u ≤ 0 := by
  rw [cmpL_key] at h k ⊢
  exact lexI_trans _ _ _ h k
theorem bytes_ne {s t : ByteArray} (h : s ≠ t) : (s.toList == t.toList) = false := by
  rw [beq_eq_false_iff_ne]
  intro e
  rw [ByteArray.toList_eq, ByteArray.toList_eq] at e
  exact h (WideShapes.bytes_inj e)
theorem three_strs (w : World) (s t u : ByteArray) : Ss (w.alloc (.cells #[.string s, .string t, .string u] 9)) (some ⟨w.heap.size, 0, none⟩) 3 3 [s, t, u] :=
  ⟨rfl, Nat.le_refl _, by omega, by omega, fun e => (by cases e), fun i x hi => by
    refine ⟨w.heap.size, 0, rfl, ?_⟩
    match i, hi with
    | 0, hi => simp at hi; subst hi; simp
    | 1, hi => simp at hi; subst hi; simp
    | 2, hi => simp at hi; subst hi; simp
    | i + 3, hi => simp at hi⟩
end Go.Proofs.YtfoeghabnbjbgaaDoor.Al

namespace Go.Proofs.YtfoeghabnbjbgaaDoor.Al
open Go.RowKit
open AlphPlain
open Go.Lib (decodeL decodeN validD)

theorem decN_more (n n' b0 b1 b2 b3 c1 c2 c3 : Nat) (hn : n ≤ n') (h1 : 1 < n → c1 = b1) (h2 : 2 < n → c2 = b2) (h3 : 3 < n → c3 = b3)
    (hv : ¬ ((decodeN n b0 b1 b2 b3).1 = 65533 ∧ (decodeN n b0 b1 b2 b3).2 = 1)) : decodeN n' b0 c1 c2 c3 = decodeN n b0 b1 b2 b3 := by
  by_cases a : b0 < 128
  · simp [decodeN, a]
  by_cases k1 : 1 < n
  · obtain rfl := h1 k1
    have k1' : 1 < n' := by omega
    by_cases k2 : 2 < n
    · obtain rfl := h2 k2
      have k2' : 2 < n' := by omega
      by_cases k3 : 3 < n
      · obtain rfl := h3 k3
        have k3' : 3 < n' := by omega
        simp only [decodeN, k1, k1', k2, k2', k3, k3']
      · simp only [decodeN, a, k1, k1', k2, k2', k3, if_false, true_and, false_and, and_false] at hv ⊢
        by_cases p : b0 / 32 = 6 ∧ c1 / 64 = 2
        · simp only [p, and_self, if_true]
        · simp only [p, if_false] at hv ⊢
          by_cases q : b0 / 16 = 14 ∧ c1 / 64 = 2 ∧ c2 / 64 = 2
          · simp only [q, and_self, if_true]
          · simp [q] at hv
    · simp only [decodeN, a, k1, k1', k2, if_false, true_and, false_and, and_false] at hv ⊢
      by_cases p : b0 / 32 = 6 ∧ c1 / 64 = 2
      · simp only [p, and_self, if_true]
      · simp [p] at hv
  · simp [decodeN, a, k1] at hv

theorem dec_append (l m : List UInt8) (hv : ¬ ((decodeL l).1 = 65533 ∧ (decodeL l).2 = 1)) (hne : l ≠ []) : decodeL (l ++ m) = decodeL l := by
  rw [Lib.decodeL_N] at hv
  rw [Lib.decodeL_N, Lib.decodeL_N]
  have h0 : (l ++ m).getD 0 0 = l.getD 0 0 := by
    cases l with
    | nil => exact absurd rfl hne
    | cons a l => rfl
  rw [h0]
  refine decN_more _ _ _ _ _ _ _ _ _ (by simp) ?_ ?_ ?_ hv
  all_goals
    intro h
    rw [List.getD_eq_getElem?_getD, List.getElem?_append_left (by omega), ← List.getD_eq_getElem?_getD]

theorem validD_append : ∀ (n : Nat) (l m : List UInt8), l.length ≤ n → validD l = true → validD (l ++ m) = validD m
  | 0, l, m, h, _ => by rw [List.length_eq_zero_iff.1 (by omega : l.length = 0)]; rfl
  | n + 1, l, m, h, hv => by
    by_cases hne : l = []
    · subst hne; rfl
    · rw [Lib.validD_step l hne] at hv
      by_cases hb : (decodeL l).1 = 65533 ∧ (decodeL l).2 = 1
      · rw [if_pos hb] at hv; cases hv
      · rw [if_neg hb] at hv
        have hw := Lib.decodeL_width l
        have hl := Lib.decodeL_le l hne
        have hp : 0 < l.length := List.length_pos_iff.2 hne
        rw [Lib.validD_step (l ++ m) (by simp [hne]), dec_append l m hb hne, if_neg hb, List.drop_append_of_le_length hl]
        exact validD_append n _ m (by rw [List.length_drop]; omega) hv

/-- The runes of a list of bytes. -/
def rd : Nat → List UInt8 → List Int
  | 0, _ => []
  | n + 1, l => if l = [] then [] else ((decodeL l).1 : Int) :: rd n (l.drop (decodeL l).2)
def rdL (l : List UInt8) : List Int := rd l.length l

theorem rd_fuel : ∀ (n m : Nat) (l : List UInt8), l.length ≤ n → l.length ≤ m → rd n l = rd m l
  | 0, 0, l, _, _ => rfl
  | 0, m + 1, l, h, _ => by rw [List.length_eq_zero_iff.1 (by omega : l.length = 0)]; rfl
  | n + 1, 0, l, _, h => by rw [List.length_eq_zero_iff.1 (by omega : l.length = 0)]; rfl
  | n + 1, m + 1, l, hn, hm => by
    rw [rd, rd]
    by_cases hne : l = []
    · rw [if_pos hne, if_pos hne]
    · have hw := Lib.decodeL_width l
      have hp : 0 < l.length := List.length_pos_iff.2 hne
      rw [if_neg hne, if_neg hne, rd_fuel n m _ (by rw [List.length_drop]; omega) (by rw [List.length_drop]; omega)]
theorem rdL_nil : rdL [] = [] := rfl
theorem rdL_step (l : List UInt8) (hne : l ≠ []) : rdL l = ((decodeL l).1 : Int) :: rdL (l.drop (decodeL l).2) := by
  have hp : 0 < l.length := List.length_pos_iff.2 hne
  have hw := Lib.decodeL_width l
  obtain ⟨n, hn⟩ : ∃ n, l.length = n + 1 := ⟨l.length - 1, by omega⟩
  unfold rdL
  rw [hn, rd, if_neg hne, rd_fuel n (l.drop (decodeL l).2).length _ (by rw [List.length_drop]; omega) (Nat.le_refl _)]

theorem rdL_append : ∀ (n : Nat) (l m : List UInt8), l.length ≤ n → validD l = true → rdL (l ++ m) = rdL l ++ rdL m
  | 0, l, m, h, _ => by rw [List.length_eq_zero_iff.1 (by omega : l.length = 0)]; rfl
  | n + 1, l, m, h, hv => by
    by_cases hne : l = []
    · subst hne; rfl
    · rw [Lib.validD_step l hne] at hv
      by_cases hb : (decodeL l).1 = 65533 ∧ (decodeL l).2 = 1
      · rw [if_pos hb] at hv; cases hv
      · rw [if_neg hb] at hv
        have hw := Lib.decodeL_width l
        have hl := Lib.decodeL_le l hne
        have hp : 0 < l.length := List.length_pos_iff.2 hne
        rw [rdL_step (l ++ m) (by simp [hne]), rdL_step l hne, dec_append l m hb hne, List.drop_append_of_le_length hl,
          rdL_append n _ m (by rw [List.length_drop]; omega) hv, List.cons_append]

theorem drop_ne {s : ByteArray} {p : Nat} (h : p < s.size) : s.data.toList.drop p ≠ [] := by
  intro e
  have := congrArg List.length e
  simp [List.length_drop] at this
  have : s.data.size = s.size := rfl
  omega
theorem len_drop (s : ByteArray) (p : Nat) : (s.data.toList.drop p).length = s.size - p := by
  rw [List.length_drop, Array.length_toList]; rfl

theorem runesL_rd (s : ByteArray) : ∀ b p, s.size ≤ p + b → runesL s b p = rdL (s.data.toList.drop p)
  | 0, p, h => by rw [drop_end (by omega)]; rfl
  | b + 1, p, h => by
    rw [runesL]
    by_cases hp : p < s.size
    · have hw := width_pos s p hp
      rw [if_pos hp, rdL_step _ (drop_ne hp), Lib.decodeL_drop, runesL_rd s b _ (by omega), List.drop_drop]
    · rw [if_neg hp, drop_end hp]; rfl
theorem runesOf_rd (s : ByteArray) : runesOf s = rdL s.data.toList := by
  unfold runesOf
  rw [runesL_rd s _ 0 (by omega), List.drop_zero]

theorem count_rd (s : ByteArray) : ∀ b p, s.size ≤ p + b → Lib.runeCountFrom s b p = (rdL (s.data.toList.drop p)).length
  | 0, p, h => by rw [drop_end (by omega)]; rfl
  | b + 1, p, h => by
    rw [Lib.runeCountFrom]
    by_cases hp : p < s.size
    · have hw := width_pos s p hp
      rw [if_pos hp, rdL_step _ (drop_ne hp), Lib.decodeL_drop, count_rd s b _ (by omega), List.drop_drop, List.length_cons, Nat.add_comm]
    · rw [if_neg hp, drop_end hp]; rfl
theorem runeCount_rd (s : ByteArray) : Lib.runeCount s = (rdL s.data.toList).length := by
  unfold Lib.runeCount
  rw [count_rd s _ 0 (by omega), List.drop_zero]

theorem allAt_rd (ls : List Lt) (s : ByteArray) : ∀ b p, s.size ≤ p + b → allAt ls s b p = (rdL (s.data.toList.drop p)).all (AlphPlain.has ls)
  | 0, p, h => by rw [drop_end (by omega)]; rfl
  | b + 1, p, h => by
    rw [allAt]
    by_cases hp : p < s.size
    · have hw := width_pos s p hp
      rw [if_pos hp, rdL_step _ (drop_ne hp), Lib.decodeL_drop, allAt_rd ls s b _ (by omega), List.drop_drop, List.all_cons]
    · rw [if_neg hp, drop_end hp]; rfl

theorem okAt_bad {s : ByteArray} {p : Nat} (hp : p < s.size) : okAt s p = !decide ((Utf8.decode s p).1 = 65533 ∧ (Utf8.decode s p).2 = 1) := by
  by_cases e1 : (Utf8.decode s p).1 = 65533
  · by_cases e2 : (Utf8.decode s p).2 = 1
    · rw [decide_eq_true ⟨e1, e2⟩]
      cases h : okAt s p with
      | false => rfl
      | true =>
        have h3 := okAt_enc hp h
        rw [e1, e2] at h3
        have h4 := congrArg List.length h3
        rw [List.length_take] at h4
        have h5 : (Lib.encodeRune ((65533 : Nat) : Int)).length = 3 := by decide
        omega
    · rw [decide_eq_false (fun h => e2 h.2)]
      have h := Lib.encode_decode (s.data.toList.drop p) (drop_ne hp) (by rw [Lib.decodeL_drop]; exact fun h => e2 h.2)
      rw [Lib.decodeL_drop, e1] at h
      have h5 : Lib.encodeRune ((65533 : Nat) : Int) = [239, 191, 189] := by decide
      rw [h5] at h
      have hlen := congrArg List.length h
      rw [len_take hp] at hlen
      have hw : (Utf8.decode s p).2 = 3 := by simpa using hlen.symm
      have hf := decode_fits s p hp
      rw [hw] at h
      unfold okAt
      rw [if_pos e1, decide_eq_true (by omega : p + 3 ≤ s.size)]
      have hx : s.extract p (p + 3) = ⟨#[239, 191, 189]⟩ := by
        refine WideShapes.bytes_inj ?_
        simp only [ByteArray.data_extract, Array.toList_extract, List.extract_eq_take_drop]
        rw [show p + 3 - p = 3 by omega, ← h]
      rw [decide_eq_true hx]; rfl
  · rw [decide_eq_false (fun h => e1 h.1)]
    unfold okAt
    rw [if_neg e1]; rfl

theorem utf_valid (s : ByteArray) : ∀ b p, s.size ≤ p + b → utfAt s b p = validD (s.data.toList.drop p)
  | 0, p, h => by rw [drop_end (by omega)]; rfl
  | b + 1, p, h => by
    rw [utfAt]
    by_cases hp : p < s.size
    · have hw := width_pos s p hp
      rw [if_pos hp, Lib.validD_step _ (drop_ne hp), Lib.decodeL_drop, okAt_bad hp, utf_valid s b _ (by omega), List.drop_drop]
      by_cases hb : (Utf8.decode s p).1 = 65533 ∧ (Utf8.decode s p).2 = 1
      · rw [if_pos hb, decide_eq_true hb]; rfl
      · rw [if_neg hb, decide_eq_false hb]; rfl
    · rw [if_neg hp, drop_end hp]; rfl
theorem utfB_valid (s : ByteArray) : utfB s = validD s.data.toList := by
  unfold utfB
  rw [utf_valid s _ 0 (by omega), List.drop_zero]

/-- Is s a word over ls? -/
def wordB (ls : List Lt) (s : ByteArray) : Bool := validD s.data.toList && decide ((rdL s.data.toList).length ≤ 40) && (rdL s.data.toList).all (AlphPlain.has ls)
theorem wordB_eq (ls : List Lt) (s : ByteArray) : isWordB ls s (validD s.data.toList) = wordB ls s := by
  unfold isWordB wordB
  rw [runeCount_rd, allAt_rd ls s _ 0 (by omega), List.drop_zero]

theorem toList_app (s t : ByteArray) : (s ++ t).data.toList = s.data.toList ++ t.data.toList := by
  rw [ByteArray.data_append, Array.toList_append]

/-- Two strings of valid UTF-8 together are a word exactly if both are, and they have at most 40 runes. -/
theorem wordB_joins (ls : List Lt) (s t : ByteArray) (hs : validD s.data.toList = true) (ht : validD t.data.toList = true) :
    wordB ls (s ++ t) = (wordB ls s && wordB ls t && decide ((runesOf s).length + (runesOf t).length ≤ 40)) := by
  unfold wordB
  rw [toList_app, validD_append _ _ _ (Nat.le_refl _) hs, rdL_append _ _ _ (Nat.le_refl _) hs, runesOf_rd, runesOf_rd, hs, ht, List.length_append, List.all_append]
  generalize (rdL s.data.toList).all (AlphPlain.has ls) = a
  generalize (rdL t.data.toList).all (AlphPlain.has ls) = b
  generalize (rdL s.data.toList).length = n
  generalize (rdL t.data.toList).length = m
  by_cases h : n + m ≤ 40
  · have h1 : n ≤ 40 := by omega
    have h2 : m ≤ 40 := by omega
    simp [h, h1, h2]
  · simp [h]
end Go.Proofs.YtfoeghabnbjbgaaDoor.Al

namespace Go.Proofs.YtfoeghabnbjbgaaDoor.Al
open Go.RowKit
open AlphPlain
open Go.Lib (validD)

theorem validStr_any (s : ByteArray) (w : World) (hs : s.size ≤ 9223372036854775807) (hT : Tabs w) :
    Calls Tryd.prog 44 #[.string s] w (BoolPost w (validD s.data.toList)) := Tryd.utf8_ValidString s w hs hT

theorem isWord_any (A : Option Addr) (n c : Nat) (ls : List Lt) (s : ByteArray) (w : World) (ha : Ll w A n c ls) (hs : s.size < 9223372036854775807) (hT : Tabs w) :
    Calls Tryd.prog 20 #[.slice A n c, .string s] w (BoolPost w (wordB ls s)) := by
  rw [← wordB_eq]
  exact isWord_of A n c ls s _ w ha hs (validStr_any s w (by omega) hT)

theorem has_idxI (ls : List Lt) (r : Int) : (AlphPlain.has ls r = true ∧ 0 ≤ idxI ls r) ∨ (AlphPlain.has ls r = false ∧ idxI ls r = -1) := by
  cases h : AlphPlain.has ls r
  · exact .inr ⟨rfl, idxI_not h⟩
  · refine .inl ⟨rfl, ?_⟩
    rw [idxI_has h]; omega

theorem wordB_ref (ls : List Lt) (s : ByteArray) : wordB ls s = ((utfB s && allAt ls s s.size 0) && decide ((runesOf s).length ≤ 40)) := by
  unfold wordB
  rw [utfB_valid, allAt_rd ls s _ 0 (by omega), List.drop_zero, runesOf_rd]
  cases validD s.data.toList <;> cases decide ((rdL s.data.toList).length ≤ 40) <;> simp

theorem one_strs (w : World) (s : ByteArray) : Ss (w.alloc (.cells #[.string s] 9)) (some ⟨w.heap.size, 0, none⟩) 1 1 [s] :=
  ⟨rfl, Nat.le_refl _, by omega, by omega, fun e => (by cases e), fun i x hi => by
    refine ⟨w.heap.size, 0, rfl, ?_⟩
    match i, hi with
    | 0, hi => simp at hi; subst hi; simp
    | i + 1, hi => simp at hi⟩
theorem two_strs (w : World) (s t : ByteArray) : Ss (w.alloc (.cells #[.string s, .string t] 9)) (some ⟨w.heap.size, 0, none⟩) 2 2 [s, t] :=
  ⟨rfl, Nat.le_refl _, by omega, by omega, fun e => (by cases e), fun i x hi => by
    refine ⟨w.heap.size, 0, rfl, ?_⟩
    match i, hi with
    | 0, hi => simp at hi; subst hi; simp
    | 1, hi => simp at hi; subst hi; simp
    | i + 2, hi => simp at hi⟩
end Go.Proofs.YtfoeghabnbjbgaaDoor.Al

namespace Go.Proofs.YtfoeghabnbjbgaaDoor.Al
open Go.ChangeShapes Go.WideShapes Go.ChangeAt Go.RowKit Go.Deep
open AlphPlain

def toInt : Value → Int
  | .int _ z => z
  | _ => 0

theorem letters_of {H : Type} {enc : TypeId × Value → H} {W : World} {a : Option Addr} {len cap : Nat} {d : DataW H} {p : List MemPlace}
    (h : DataW.Trod enc Tryd.prog W 0 (fun _ => true) true 22 (.slice a len cap) d p) {R : Nat} (hR : R ≤ reachBytes) (hs : ∀ el sp, d = .slice el sp → (el.length + sp.length) * 8 ≤ R) :
    ∃ ls, Ll W a len cap ls ∧ cap * 8 ≤ R := by
  obtain ⟨fuel, hf⟩ := h
  rcases open_slice_pairs Tryd.underlying22 Tryd.underlying72 (by kernel_rfl) rfl rfl (by kernel_rfl) (by kernel_rfl) hf with ⟨hcs, hx⟩ | ⟨x, l, c, m, n, V0, V1, D0, D1, P0, P1, hcs, _, hl, hm, hmm, hx, hcell⟩
  · simp [Value.cells] at hcs
    obtain ⟨rfl, rfl, rfl⟩ := hcs
    exact ⟨[], ⟨rfl, Nat.le_refl _, by omega, by omega, fun _ => rfl, fun i l h => by simp at h, fun l h => by cases h⟩, by omega⟩
  · simp [Value.cells] at hcs
    obtain ⟨rfl, rfl, rfl⟩ := hcs
    simp only [if_true] at hmm
    obtain rfl : m = cap := hmm
    simp only [Prod.mk.injEq] at hx
    have hb := hs _ _ hx.1
    simp only [List.length_map, List.length_range] at hb
    have hcap : m * 8 ≤ R := by rwa [show len + (m - len) = m from by omega] at hb
    have hint : ∀ i, i < len → ∃ s t, V0 i = .int .i32 s ∧ V1 i = .int .u32 t ∧ (Lit.int .i32 s).wf = true ∧ (Lit.int .u32 t).wf = true := by
      intro i hi
      obtain ⟨_, _, h0, h1⟩ := hcell i (by omega)
      obtain ⟨s, e0, _, z0⟩ := DataW.trod_int Tryd.underlying21 h0
      obtain ⟨t, e1, _, z1⟩ := DataW.trod_int Tryd.underlying70 h1
      simp at e0 e1
      exact ⟨s, t, e0, e1, z0, z1⟩
    refine ⟨(List.range len).map fun i => (toInt (V0 i), toInt (V1 i)), ⟨by simp, hl, by unfold reachBytes at hR; omega, by unfold reachBytes at hR; omega, fun e => (by cases e), ?_, ?_⟩, hcap⟩
    · intro i f hi
      have hlt : i < len := by have := (List.getElem?_eq_some_iff.1 hi).1; simpa using this
      simp [hlt] at hi
      subst hi
      obtain ⟨c0, c1, _, _⟩ := hcell i (by omega)
      obtain ⟨s, t, e0, e1, _, _⟩ := hint i hlt
      obtain ⟨b, off, spot⟩ := x
      obtain ⟨k0, _, _, _⟩ := hcell 0 (by omega)
      have hspot : spot = none := by simpa [Addr.add] using World.cell?_spot k0
      subst hspot
      rw [Addr.add_lit] at c0 c1
      refine ⟨b, off, rfl, ?_, ?_⟩
      · rw [c0, e0]; rfl
      · rw [Nat.add_assoc, c1, e1]; rfl
    · intro f hf
      simp only [List.mem_map, List.mem_range] at hf
      obtain ⟨i, hi, rfl⟩ := hf
      obtain ⟨s, t, e0, e1, z0, z1⟩ := hint i hi
      rw [e0, e1]
      exact ⟨z0, z1⟩

/-- What every row lists: the two tables. -/
abbrev listed : List (String × DataW Unit) := [("unicode/utf8.acceptRanges", Rows.laid_unicode_utf8_acceptRanges), ("unicode/utf8.first", Rows.laid_unicode_utf8_first)]
def ren : Go.Shelf.Ren := ⟨fun n => n, fun | 5 => 5 | 119 => 104 | 138 => 106 | 139 => 107 | n => n, fun | 3 => 0 | 4 => 1 | n => n⟩
theorem types : U8Types Tryd.prog ren := ⟨Tryd.underlying5, Tryd.underlying104, Tryd.underlying106, Tryd.underlying107⟩
theorem first_is : Rows.laid_unicode_utf8_first = Lib.firstData := by kernel_rfl
theorem accept_is : (Rows.laid_unicode_utf8_acceptRanges : DataW Unit) = Lib.acceptData := by kernel_rfl

theorem tabs_of {W : World} (hL : laidMetH Tryd.prog listed W) : Tabs W := by
  have h2 : laidMet Tryd.prog listed W := hL
  exact utf8Tabs_of_readsT (ρ := ren) types ⟨by kernel_rfl, by kernel_rfl, by kernel_rfl, by kernel_rfl, by kernel_rfl, by kernel_rfl, by kernel_rfl⟩
    (first_is ▸ Lib.laidMet.reads h2 (.tail _ (.head _))) (accept_is ▸ Lib.laidMet.reads h2 (.head _))

end Go.Proofs.YtfoeghabnbjbgaaDoor.Al
