/-
  few, Find, and the reference's Index, Find and Same. Conditions: the slices hold the lexemes, none of which has more features than an argument can hold.
-/
import Derived.Test.YtfoeghabnbjbgaaDoorLexIndex
import Derived.Laws.ResultCell
import Derived.Test.YtfoeghabnbjbgaaDoorFtAll
namespace Go.Proofs.YtfoeghabnbjbgaaDoor
open Go.RowKit
open FeatPlain

def shortB (x : Lx) : Bool := decide (x.id.size ≤ 60) && (decide (x.cat.size ≤ 60) && (decide (x.stem.size ≤ 200) && (decide (x.par.size ≤ 60) && decide (x.fn ≤ 20))))
/-- The list is short, and its strings are short. -/
def fewB (xs : List Lx) : Bool := xs.all shortB && decide (xs.length ≤ 300)
theorem few_bad {xs : List Lx} {k : Nat} {x : Lx} (h : xs[k]? = some x) (hs : shortB x = false) : fewB xs = false := by
  have : xs.all shortB = false := by rw [List.all_eq_false]; exact ⟨x, List.mem_of_getElem? h, by simp [hs]⟩
  simp [fewB, this]

set_option maxRecDepth 100000 in
set_option maxHeartbeats 3200000 in
theorem few_any (A : Option Addr) (n c : Nat) (xs : List Lx) (w : World) (ha : Ls w A n c xs) :
    Calls Tryd.prog 6 #[.slice A n c] w (BoolPost w (fewB xs)) := by
  have hn := ha.max
  have hnc := ha.le
  have hcm := ha.cmax
  have hlen := Lib.hid ha.len
  go_enter Tryd.func6, Tryd.ntmps6
  go_wp2
  go_loopw [3] (fun i wr => ∃ k, k ≤ n ∧ i = .int .i64 (k : Nat) ∧ (xs.take k).all shortB = true ∧ Aft w wr) (fun i _ => n - (intOf i).toNat)
  case atStart => exact ⟨0, Nat.zero_le _, rfl, by simp, Aft.refl _⟩
  case round =>
    obtain ⟨k, hk, rfl, hall, haf⟩ := hrel
    have HALL := Lib.hid hall
    clear hall
    by_cases hlt : k < n
    · obtain ⟨b, off, x, rfl, hx, h5, hlw⟩ := ha.at_ hlt
      obtain ⟨c0, c1, c2, c3, c4⟩ := h5.aft haf
      have HX := Lib.hid hx
      have hfle := hlw.fts.le
      clear hx h5 hlw
      have haf1 := haf.alloc (.cells #[.string x.id, .string x.cat, .string x.stem, .string x.par, .slice x.fa x.fn x.fc] 30)
      by_cases a0 : x.id.size ≤ 60
      · have b0 : ¬ (60 : Int) < (x.id.size : Int) := by omega
        by_cases a1 : x.cat.size ≤ 60
        · have b1 : ¬ (60 : Int) < (x.cat.size : Int) := by omega
          by_cases a2 : x.stem.size ≤ 200
          · have b2 : ¬ (200 : Int) < (x.stem.size : Int) := by omega
            by_cases a3 : x.par.size ≤ 60
            · have b3 : ¬ (60 : Int) < (x.par.size : Int) := by omega
              by_cases a4 : x.fn ≤ 20
              · have b4 : ¬ (20 : Int) < (x.fn : Int) := by omega
                have HN := Lib.hid (show (xs.take (k + 1)).all shortB = true by rw [take_next HX.out, List.all_append, HALL.out]; simp [shortB, a0, a1, a2, a3, a4])
                clear a0 a1 a2 a3 a4
                go_wp2
                go_roundw
                case rel => exact ⟨k + 1, by omega, by go_num, HN.out, haf1⟩
                case measure => simp [intOf]; omega
              · have b4 : (20 : Int) < (x.fn : Int) := by omega
                have HR := Lib.hid (few_bad HX.out (by simp [shortB]; omega))
                go_wp2
                go_ret
                exact ⟨by rw [HR.out]; rfl, haf1⟩
            · have b3 : (60 : Int) < (x.par.size : Int) := by omega
              have HR := Lib.hid (few_bad HX.out (by simp [shortB]; omega))
              go_wp2
              go_ret
              exact ⟨by rw [HR.out]; rfl, haf1⟩
          · have b2 : (200 : Int) < (x.stem.size : Int) := by omega
            have HR := Lib.hid (few_bad HX.out (by simp [shortB]; omega))
            go_wp2
            go_ret
            exact ⟨by rw [HR.out]; rfl, haf1⟩
        · have b1 : (60 : Int) < (x.cat.size : Int) := by omega
          have HR := Lib.hid (few_bad HX.out (by simp [shortB]; omega))
          go_wp2
          go_ret
          exact ⟨by rw [HR.out]; rfl, haf1⟩
      · have b0 : (60 : Int) < (x.id.size : Int) := by omega
        have HR := Lib.hid (few_bad HX.out (by simp [shortB]; omega))
        go_wp2
        go_ret
        exact ⟨by rw [HR.out]; rfl, haf1⟩
    · obtain rfl : k = n := by omega
      have hall := HALL.out
      rw [List.take_of_length_le (by rw [hlen.out]; exact Nat.le_refl _)] at hall
      by_cases h3 : k ≤ 300
      · have HR := Lib.hid (show fewB xs = true by simp [fewB, hlen.out, h3]; simpa using hall)
        have b3 : (k : Int) ≤ 300 := by omega
        clear hall
        go_wp2
        go_ret
        exact ⟨by rw [HR.out]; rfl, haf⟩
      · have HR := Lib.hid (show fewB xs = false by simp [fewB, hlen.out, h3])
        have b3 : ¬ (k : Int) ≤ 300 := by omega
        clear hall
        go_wp2
        go_ret
        exact ⟨by rw [HR.out]; rfl, haf⟩

theorem idxL_cases (p : Lx → Bool) (xs : List Lx) : (idxL p xs = -1 ∧ xs.find? p = none) ∨ ∃ (k : Nat) (x : Lx), idxL p xs = (k : Int) ∧ xs[k]? = some x ∧ xs.find? p = some x := by
  cases h : xs.findIdx? p with
  | none =>
    left
    refine ⟨by simp [idxL, h], ?_⟩
    rw [List.findIdx?_eq_none_iff] at h
    rw [List.find?_eq_none]
    intro x hx
    simp [h x hx]
  | some k =>
    right
    have h' := h
    rw [List.findIdx?_eq_some_iff_getElem] at h'
    obtain ⟨hk, hp, hlt⟩ := h'
    refine ⟨k, xs[k], by simp [idxL, h], List.getElem?_eq_getElem hk, ?_⟩
    rw [List.find?_eq_some_iff_getElem]
    exact ⟨hp, k, hk, rfl, fun j hj => by simpa using hlt j hj⟩

def zeroSay : Lxp := (⟨#[]⟩, ⟨#[]⟩, ⟨#[]⟩, ⟨#[]⟩, [])
/-- A lexeme that was found, or the zero value. -/
def FindPost (w : World) (r : Option Lxp) (e : Ending) (w' : World) : Prop := Aft w w' ∧ ∃ y : Lx, e = .returned (.tuple #[.agg #[.string y.id, .string y.cat, .string y.stem, .string y.par, .slice y.fa y.fn y.fc], .bool r.isSome]) ∧ Lw w' y ∧ y.say = r.getD zeroSay
theorem Lc.setBox {w : World} {x z : Lx} {p : Nat} (h : Lc w x) (hb : BoxL w p z) (v0 v1 v2 v3 v4 : Value) : Lc (((((w.setCell ⟨p, 0, none⟩ v0).setCell ⟨p, 1, none⟩ v1).setCell ⟨p, 2, none⟩ v2).setCell ⟨p, 3, none⟩ v3).setCell ⟨p, 4, none⟩ v4) x := by
  have hne : (Value.slice x.fa x.fn x.fc).ownBlock ≠ some p := fun e => by
    rcases h.own.2 with ⟨q, _⟩ | ⟨g, cap, cur, q, _, hg, _⟩
    · rw [q] at e; cases e
    · rw [q] at e
      cases e
      rw [show w.heap[g]? = _ from hb] at hg
      cases hg
  exact ⟨ownsRow_setCell_other (ownsRow_setCell_other (ownsRow_setCell_other (ownsRow_setCell_other (ownsRow_setCell_other h.own (a := ⟨p, 0, none⟩) hne v0) (a := ⟨p, 1, none⟩) hne v1) (a := ⟨p, 2, none⟩) hne v2) (a := ⟨p, 3, none⟩) hne v3) (a := ⟨p, 4, none⟩) hne v4, h.len, h.max, h.wid, h.wcat, h.wstem, h.wpar⟩

set_option maxRecDepth 100000 in
set_option maxHeartbeats 1600000 in
theorem Find_any (A : Option Addr) (n c : Nat) (xs : List Lx) (s : ByteArray) (w : World) (ha : Ls w A n c xs) (hfn : ∀ x ∈ xs, x.fn * 32 ≤ 140737488355328) :
    Calls Tryd.prog 10 #[.slice A n c, .string s] w (FindPost w ((xs.find? fun x => decide (x.id = s)).map Lx.say)) := by
  have hnc := ha.le
  have hcm := ha.cmax
  have A0 := (Aft.refl w).alloc (.cells #[.string ⟨#[]⟩, .string ⟨#[]⟩, .string ⟨#[]⟩, .string ⟨#[]⟩, .slice none 0 0] 30)
  have B0 := BoxL.new w zeroL
  have HI := Lib.hid (Index_any A n c xs s _ (ha.aft A0))
  rcases idxL_cases (fun x => decide (x.id = s)) xs with ⟨h1, h2⟩ | ⟨k, x, h1, h2, h3⟩
  · rw [h1] at HI
    have HR := Lib.hid h2
    clear h1 h2
    go_enter Tryd.func10, Tryd.ntmps10
    go_wp2_with fail
    refine HI.out.mono ?_
    rintro e w1 ⟨rfl, A1⟩
    have B1 := B0.aft A1
    obtain ⟨r0, r1, r2, r3, r4⟩ := B1.five
    have z0 := B1.frozen 0; have z1 := B1.frozen 1; have z2 := B1.frozen 2; have z3 := B1.frozen 3; have z4 := B1.frozen 4
    dsimp only [zeroL, Nat.zero_add] at r0 r1 r2 r3 r4
    have AA := A0.trans A1
    clear B0 B1 HI
    go_wp2
    try simp only [Exit.inBlock, Exit.then]
    refine bodyPost_ret (v := .tuple #[.agg #[.string ⟨#[]⟩, .string ⟨#[]⟩, .string ⟨#[]⟩, .string ⟨#[]⟩, .slice none 0 0], .bool false]) (by rw [results_cell_tmp rfl]; simp [go_sem, r0, r1, r2, r3, r4]) rfl ?_
    rw [HR.out]
    exact ⟨((((AA.setCell (p := ⟨w.heap.size, 0, none⟩) (Nat.le_refl _) _).setCell (p := ⟨w.heap.size, 1, none⟩) (Nat.le_refl _) _).setCell (p := ⟨w.heap.size, 2, none⟩) (Nat.le_refl _) _).setCell (p := ⟨w.heap.size, 3, none⟩) (Nat.le_refl _) _).setCell (p := ⟨w.heap.size, 4, none⟩) (Nat.le_refl _) _, zeroL, rfl, ⟨Sl.nil (show 0 ≤ 9223372036854775807 by omega) (fun _ => rfl), Nat.zero_le _, Nat.zero_le _, Nat.zero_le _, Nat.zero_le _⟩, rfl⟩
  · rw [h1] at HI
    have HR := Lib.hid h3
    have hkl := (List.getElem?_eq_some_iff.1 h2).1
    have hkn : k < n := by have := ha.len; omega
    obtain ⟨b, off, x', rfl, hx', h5, hlw⟩ := ha.at_ hkn
    have ex : x' = x := by rw [h2] at hx'; exact (Option.some.inj hx').symm
    subst ex
    have hf := hfn x' (List.mem_of_getElem? h2)
    have H5 := Lib.hid h5
    have HLW := Lib.hid hlw
    have hk0 : ¬ (k : Int) < 0 := by omega
    clear h1 h2 h3 hx' h5 hlw hkl
    go_enter Tryd.func10, Tryd.ntmps10
    go_wp2_with fail
    refine HI.out.mono ?_
    rintro e w1 ⟨rfl, A1⟩
    have AA := A0.trans A1
    obtain ⟨c0, c1, c2, c3, c4⟩ := H5.out.aft AA
    have HCL := Lib.hid (cloneL_any x' w1 (HLW.out.aft AA) hf)
    clear HI
    go_wp2_with fail
    refine HCL.out.mono ?_
    rintro e w2 ⟨y, rfl, hsay, hy, A2⟩
    have B1 := B0.aft (A1.trans A2)
    obtain ⟨r0, r1, r2, r3, r4⟩ := B1.five
    have z0 := B1.frozen 0; have z1 := B1.frozen 1; have z2 := B1.frozen 2; have z3 := B1.frozen 3; have z4 := B1.frozen 4
    dsimp only [zeroL, Nat.zero_add] at r0 r1 r2 r3 r4
    have AA2 := AA.trans A2
    have HY := Lib.hid hy
    have HB := Lib.hid B1
    clear B0 B1 HCL c0 c1 c2 c3 c4 hy
    go_wp2
    try simp only [Exit.inBlock, Exit.then]
    refine bodyPost_ret (v := .tuple #[.agg #[.string y.id, .string y.cat, .string y.stem, .string y.par, .slice y.fa y.fn y.fc], .bool true]) (by rw [results_cell_tmp rfl]; simp [go_sem, r0, r1, r2, r3, r4]) rfl ?_
    rw [HR.out]
    exact ⟨((((AA2.setCell (p := ⟨w.heap.size, 0, none⟩) (Nat.le_refl _) _).setCell (p := ⟨w.heap.size, 1, none⟩) (Nat.le_refl _) _).setCell (p := ⟨w.heap.size, 2, none⟩) (Nat.le_refl _) _).setCell (p := ⟨w.heap.size, 3, none⟩) (Nat.le_refl _) _).setCell (p := ⟨w.heap.size, 4, none⟩) (Nat.le_refl _) _, y, rfl, (HY.out.setBox HB.out _ _ _ _ _).lw, hsay⟩

end Go.Proofs.YtfoeghabnbjbgaaDoor
