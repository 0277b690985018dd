/-
  few, Find, and the reference's Index, Find and Same. Conditions: the slices hold the lexemes, none of which has more features than an argument can hold.
-/
import Derived.Test.YtpkhoklahcgcoaaDoorLexIndex
import Derived.Laws.ResultCell
import Derived.Test.YtpkhoklahcgcoaaDoorFtAll
namespace Go.Proofs.YtpkhoklahcgcoaaDoor
open Go.RowKit
open FeatPlain

def shortB (x : Lx) : Bool := decide (x.id.size ≤ 60) && (decide (x.cat.size ≤ 60) && (decide (x.stem.size ≤ 200) && (decide (x.par.size ≤ 60) && decide (x.fn ≤ 20))))
/-- The list is short, and its strings are short. -/
def fewB (xs : List Lx) : Bool := xs.all shortB && decide (xs.length ≤ 300)
theorem few_bad {xs : List Lx} {k : Nat} {x : Lx} (h : xs[k]? = some x) (hs : shortB x = false) : fewB xs = false := by
  have : xs.all shortB = false := by rw [List.all_eq_false]; exact ⟨x, List.mem_of_getElem? h, by simp [hs]⟩
  simp [fewB, this]

set_option maxRecDepth 100000 in
set_option maxHeartbeats 3200000 in
theorem few_any (A : Option Addr) (n c : Nat) (xs : List Lx) (w : World) (ha : Ls w A n c xs) :
    Calls Tryd.prog 7 #[.slice A n c] w (BoolPost w (fewB xs)) := by
  have hn := ha.max
  have hnc := ha.le
  have hcm := ha.cmax
  have hlen := Lib.hid ha.len
  go_enter Tryd.func7, Tryd.ntmps7
  go_wp2
  go_loopw [3] (fun i wr => ∃ k, k ≤ n ∧ i = .int .i64 (k : Nat) ∧ (xs.take k).all shortB = true ∧ Aft w wr) (fun i _ => n - (intOf i).toNat)
  case atStart => exact ⟨0, Nat.zero_le _, rfl, by simp, Aft.refl _⟩
  case round =>
    obtain ⟨k, hk, rfl, hall, haf⟩ := hrel
    have HALL := Lib.hid hall
    clear hall
    by_cases hlt : k < n
    · obtain ⟨b, off, x, rfl, hx, h5, hlw⟩ := ha.at_ hlt
      obtain ⟨c0, c1, c2, c3, c4⟩ := h5.aft haf
      have HX := Lib.hid hx
      have hfle := hlw.fts.le
      clear hx h5 hlw
      have haf1 := haf.alloc (.cells #[.string x.id, .string x.cat, .string x.stem, .string x.par, .slice x.fa x.fn x.fc] 24)
      by_cases a0 : x.id.size ≤ 60
      · have b0 : ¬ (60 : Int) < (x.id.size : Int) := by omega
        by_cases a1 : x.cat.size ≤ 60
        · have b1 : ¬ (60 : Int) < (x.cat.size : Int) := by omega
          by_cases a2 : x.stem.size ≤ 200
          · have b2 : ¬ (200 : Int) < (x.stem.size : Int) := by omega
            by_cases a3 : x.par.size ≤ 60
            · have b3 : ¬ (60 : Int) < (x.par.size : Int) := by omega
              by_cases a4 : x.fn ≤ 20
              · have b4 : ¬ (20 : Int) < (x.fn : Int) := by omega
                have HN := Lib.hid (show (xs.take (k + 1)).all shortB = true by rw [take_next HX.out, List.all_append, HALL.out]; simp [shortB, a0, a1, a2, a3, a4])
                clear a0 a1 a2 a3 a4
                go_wp2
                go_roundw
                case rel => exact ⟨k + 1, by omega, by go_num, HN.out, haf1⟩
                case measure => simp [intOf]; omega
              · have b4 : (20 : Int) < (x.fn : Int) := by omega
                have HR := Lib.hid (few_bad HX.out (by simp [shortB]; omega))
                go_wp2
                go_ret
                exact ⟨by rw [HR.out]; rfl, haf1⟩
            · have b3 : (60 : Int) < (x.par.size : Int) := by omega
              have HR := Lib.hid (few_bad HX.out (by simp [shortB]; omega))
              go_wp2
              go_ret
              exact ⟨by rw [HR.out]; rfl, haf1⟩
          · have b2 : (200 : Int) < (x.stem.size : Int) := by omega
            have HR := Lib.hid (few_bad HX.out (by simp [shortB]; omega))
            go_wp2
            go_ret
            exact ⟨by rw [HR.out]; rfl, haf1⟩
        · have b1 : (60 : Int) < (x.cat.size : Int) := by omega
          have HR := Lib.hid (few_bad HX.out (by simp [shortB]; omega))
          go_wp2
          go_ret
          exact ⟨by rw [HR.out]; rfl, haf1⟩
      · have b0 : (60 : Int) < (x.id.size : Int) := by omega
        have HR := Lib.hid (few_bad HX.out (by simp [shortB]; omega))
        go_wp2
        go_ret
        exact ⟨by rw [HR.out]; rfl, haf1⟩
    · obtain rfl : k = n := by omega
      have hall := HALL.out
      rw [List.take_of_length_le (by rw [hlen.out]; exact Nat.le_refl _)] at hall
      by_cases h3 : k ≤ 300
      · have HR := Lib.hid (show fewB xs = true by simp [fewB, hlen.out, h3]; simpa using hall)
        have b3 : (k : Int) ≤ 300 := by omega
        clear hall
        go_wp2
        go_ret
        exact ⟨by rw [HR.out]; rfl, haf⟩
      · have HR := Lib.hid (show fewB xs = false by simp [fewB, hlen.out, h3])
        have b3 : ¬ (k : Int) ≤ 300 := by omega
        clear hall
        go_wp2
        go_ret
        exact ⟨by rw [HR.out]; rfl, haf⟩

theorem idxL_cases (p : Lx → Bool) (xs : List Lx) : (idxL p xs = -1 ∧ xs.find? p = none) ∨ ∃ (k : Nat) (x : Lx), idxL p xs = (k : Int) ∧ xs[k]? = some x ∧ xs.find? p = some x := by
  cases h : xs.findIdx? p with
  | none =>
    left
    refine ⟨by simp [idxL, h], ?_⟩
    rw [List.findIdx?_eq_none_iff] at h
    rw [List.find?_eq_none]
    intro x hx
    simp [h x hx]
  | some k =>
    right
    have h' := h
    rw [List.findIdx?_eq_some_iff_getElem] at h'
    obtain ⟨hk, hp, hlt⟩ := h'
    refine ⟨k, xs[k], by simp [idxL, h], List.getElem?_eq_getElem hk, ?_⟩
    rw [List.find?_eq_some_iff_getElem]
    exact ⟨hp, k, hk, rfl, fun j hj => by simpa using hlt j hj⟩

def zeroSay : Lxp := (⟨#[]⟩, ⟨#[]⟩, ⟨#[]⟩, ⟨#[]⟩, [])
/-- A lexeme that was found, or the zero value. -/
def FindPost (w : World) (r : Option Lxp) (e : Ending) (w' : World) : Prop := Aft w w' ∧ ∃ y : Lx, e = .returned (.tuple #[.agg #[.string y.id, .string y.cat, .string y.stem, .string y.par, .slice y.fa y.fn y.fc], .bool r.isSome]) ∧ Lw w' y ∧ y.say = r.getD zeroSay
theorem Lc.setBox {w : World} {x z : Lx} {p : Nat} (h : Lc w x) (hb : BoxL w p z) (v0 v1 v2 v3 v4 : Value) : Lc (((((w.setCell ⟨p, 0, none⟩ v0).setCell ⟨p, 1, none⟩ v1).setCell ⟨p, 2, none⟩ v2).setCell ⟨p, 3, none⟩ v3).setCell ⟨p, 4, none⟩ v4) x := by
  have hne : (Value.slice x.fa x.fn x.fc).ownBlock ≠ some p := fun e => by
    rcases h.own.2 with ⟨q, _⟩ | ⟨g, cap, cur, q, _, hg, _⟩
    · rw [q] at e; cases e
    · rw [q] at e
      cases e
      rw [show w.heap[g]? = _ from hb] at hg
      cases hg
  exact ⟨ownsRow_setCell_other (ownsRow_setCell_other (ownsRow_setCell_other (ownsRow_setCell_other (ownsRow_setCell_other h.own (a := ⟨p, 0, none⟩) hne v0) (a := ⟨p, 1, none⟩) hne v1) (a := ⟨p, 2, none⟩) hne v2) (a := ⟨p, 3, none⟩) hne v3) (a := ⟨p, 4, none⟩) hne v4, h.len, h.max, h.wid, h.wcat, h.wstem, h.wpar⟩

end Go.Proofs.YtpkhoklahcgcoaaDoor
