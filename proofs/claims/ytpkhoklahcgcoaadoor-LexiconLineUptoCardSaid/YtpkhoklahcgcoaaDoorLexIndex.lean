/-
  Index returns the place of the first lexeme with an ID, or -1; Category and Stem the lexemes with a category and a stem. Conditions: the slice holds the lexemes, at most 2^32 of them, none of which has more features than an argument can hold.
-/
import Derived.Test.YtpkhoklahcgcoaaDoorLexFilter
import Derived.Laws.EntriesVeiled
import Derived.Maps.AppendAt
namespace Go.Proofs.YtpkhoklahcgcoaaDoor
open Go.RowKit
open FeatPlain

/-- The place of the first one that has p, or -1. -/
def idxL (p : Lx → Bool) (xs : List Lx) : Int := match xs.findIdx? p with | some i => i | none => -1
theorem idxL_hit {p : Lx → Bool} {xs : List Lx} {k : Nat} {x : Lx} (h : ∀ y ∈ xs.take k, p y = false) (hx : xs[k]? = some x) (hp : p x = true) : idxL p xs = (k : Nat) := by
  obtain ⟨hk, e⟩ := List.getElem?_eq_some_iff.1 hx
  have : xs.findIdx? p = some k := by
    rw [List.findIdx?_eq_some_iff_getElem]
    refine ⟨hk, by rw [e]; exact hp, fun j hj => ?_⟩
    have := h xs[j] (List.mem_of_getElem? (show (xs.take k)[j]? = some xs[j] by rw [List.getElem?_take, if_pos hj, List.getElem?_eq_getElem]))
    simp [this]
  simp [idxL, this]
theorem idxL_none {p : Lx → Bool} {xs : List Lx} (h : ∀ y ∈ xs, p y = false) : idxL p xs = -1 := by
  have : xs.findIdx? p = none := by rw [List.findIdx?_eq_none_iff]; exact h
  simp [idxL, this]

def NumPost (w : World) (i : Int) (e : Ending) (w' : World) : Prop := e = .returned (.int .i64 i) ∧ Aft w w'

set_option maxRecDepth 100000 in
set_option maxHeartbeats 1600000 in
theorem indexFunc_any (A : Option Addr) (n c : Nat) (xs : List Lx) (g : Nat) (pc : Value) (p : Lx → Bool) (w : World) (ha : Ls w A n c xs) (ht : TestL w g pc p) (hcf : ∀ args w, (callFunc g args).run Tryd.prog w = .ok (.enter g args) w) :
    Calls Tryd.prog 33 #[.slice A n c, .func (.func g) #[] #[pc]] w (NumPost w (idxL p xs)) := by
  have hn := ha.max
  have hnc := ha.le
  have hcm := ha.cmax
  have hlen := Lib.hid ha.len
  have HT := Lib.hid ht
  clear ht
  go_enter Tryd.func33, Tryd.ntmps33
  go_wp2
  go_loopw [8] (fun i wr => ∃ k, k ≤ n ∧ i = .int .i64 (k : Nat) ∧ (∀ y ∈ xs.take k, p y = false) ∧ Aft w wr) (fun i _ => n - (intOf i).toNat)
  case atStart => exact ⟨0, Nat.zero_le _, rfl, (fun y h => by simp at h), Aft.refl _⟩
  case round =>
    obtain ⟨k, hk, rfl, hno, haf⟩ := hrel
    have HNO := Lib.hid hno
    clear hno
    by_cases hlt : k < n
    · obtain ⟨b, off, x, rfl, hx, h5, hlw⟩ := ha.at_ hlt
      obtain ⟨c0, c1, c2, c3, c4⟩ := h5.aft haf
      have HX := Lib.hid hx
      have HLW := Lib.hid hlw
      clear hx h5 hlw
      have hq0 := HT.out wr haf x (HLW.out.aft haf)
      have HQ := Lib.hid hq0
      clear hq0
      cases hh : p x
      · rw [hh] at HQ
        have HN := Lib.hid (show ∀ y ∈ xs.take (k + 1), p y = false by
          intro y hy
          rw [take_next HX.out] at hy
          rcases List.mem_append.1 hy with h | h
          · exact HNO.out y h
          · rw [List.mem_singleton.1 h]; exact hh)
        clear hh
        go_wp2_with fail
        refine HQ.out.mono ?_
        rintro e w1 ⟨rfl, A1⟩
        have haf1 := haf.trans A1
        go_wp2
        go_roundw
        case rel => exact ⟨k + 1, by omega, by go_num, HN.out, haf1⟩
        case measure => simp [intOf]; omega
      · rw [hh] at HQ
        have HN := Lib.hid (idxL_hit HNO.out HX.out hh)
        clear hh
        go_wp2_with fail
        refine HQ.out.mono ?_
        rintro e w1 ⟨rfl, A1⟩
        have haf1 := haf.trans A1
        go_wp2
        go_ret
        exact ⟨by rw [HN.out]; rfl, haf1⟩
    · obtain rfl : k = n := by omega
      have HN := Lib.hid (idxL_none (p := p) (xs := xs) (fun y hy => HNO.out y (by rw [List.take_of_length_le (by rw [hlen.out]; exact Nat.le_refl _)]; exact hy)))
      go_wp2
      go_ret
      exact ⟨by rw [HN.out]; rfl, haf⟩

theorem Index1_any (x : Lx) (Bc : Nat) (s : ByteArray) (w : World) (hc : w.cell? ⟨Bc, 0, none⟩ = some (.string s)) :
    Calls Tryd.prog 34 #[.agg #[.string x.id, .string x.cat, .string x.stem, .string x.par, .slice x.fa x.fn x.fc], .pointer (some ⟨Bc, 0, none⟩)] w (BoolPost w (decide (x.id = s))) := by
  have A1 := (Aft.refl w).alloc (.cells #[.string x.id, .string x.cat, .string x.stem, .string x.par, .slice x.fa x.fn x.fc] 24)
  have hc' := A1.cell hc
  have hq := Lib.hid (toList_beq x.id s)
  go_enter Tryd.func34, Tryd.ntmps34
  go_wp2
  go_ret
  exact ⟨by first | rfl | (rw [← hq.out]; rfl) | (rw [← hq.out]; simp), A1⟩
theorem enterIndex1 (args : Array Value) (w : World) : (callFunc 34 args).run Tryd.prog w = .ok (.enter 34 args) w := by go_simp

theorem Category1_any (x : Lx) (Bc : Nat) (s : ByteArray) (w : World) (hc : w.cell? ⟨Bc, 0, none⟩ = some (.string s)) :
    Calls Tryd.prog 36 #[.agg #[.string x.id, .string x.cat, .string x.stem, .string x.par, .slice x.fa x.fn x.fc], .pointer (some ⟨Bc, 0, none⟩)] w (BoolPost w (decide (x.cat = s))) := by
  have A1 := (Aft.refl w).alloc (.cells #[.string x.id, .string x.cat, .string x.stem, .string x.par, .slice x.fa x.fn x.fc] 24)
  have hc' := A1.cell hc
  have hq := Lib.hid (toList_beq x.cat s)
  go_enter Tryd.func36, Tryd.ntmps36
  go_wp2
  go_ret
  exact ⟨by first | rfl | (rw [← hq.out]; rfl) | (rw [← hq.out]; simp), A1⟩
theorem enterCategory1 (args : Array Value) (w : World) : (callFunc 36 args).run Tryd.prog w = .ok (.enter 36 args) w := by go_simp

theorem Index_any (A : Option Addr) (n c : Nat) (xs : List Lx) (s : ByteArray) (w : World) (ha : Ls w A n c xs) :
    Calls Tryd.prog 14 #[.slice A n c, .string s] w (NumPost w (idxL (fun x => decide (x.id = s)) xs)) := by
  have A1 := (Aft.refl w).alloc (.cells #[.string s] 9)
  have hc : (w.alloc (.cells #[.string s] 9)).cell? ⟨w.heap.size, 0, none⟩ = some (.string s) := cell_one_new _ _ _ 0 _ rfl
  have HF := Lib.hid (indexFunc_any A n c xs 34 (.pointer (some ⟨w.heap.size, 0, none⟩)) (fun x => decide (x.id = s)) _ (ha.aft A1) (fun w1 a x _ => Index1_any x w.heap.size s w1 (a.cell hc)) enterIndex1)
  clear hc
  go_enter Tryd.func14, Tryd.ntmps14
  go_wp2_with fail
  refine HF.out.mono ?_
  rintro e w1 ⟨rfl, A2⟩
  go_wp2
  go_ret
  exact ⟨rfl, A1.trans A2⟩

theorem Category_any (A : Option Addr) (n c : Nat) (xs : List Lx) (s : ByteArray) (w : World) (ha : Ls w A n c xs) (hfn : ∀ x ∈ xs, x.fn * 32 ≤ 140737488355328) (hsz : n ≤ 4294967296) :
    Calls Tryd.prog 15 #[.slice A n c, .string s] w (LsPost w ((xs.filter fun x => decide (x.cat = s)).map Lx.say)) := by
  have A1 := (Aft.refl w).alloc (.cells #[.string s] 9)
  have hc : (w.alloc (.cells #[.string s] 9)).cell? ⟨w.heap.size, 0, none⟩ = some (.string s) := cell_one_new _ _ _ 0 _ rfl
  have HF := Lib.hid (filterL_any A n c xs 36 (.pointer (some ⟨w.heap.size, 0, none⟩)) (fun x => decide (x.cat = s)) _ (ha.aft A1) hfn (fun w1 a x _ => Category1_any x w.heap.size s w1 (a.cell hc)) enterCategory1 hsz)
  clear hc
  go_enter Tryd.func15, Tryd.ntmps15
  go_wp2_with fail
  refine HF.out.mono ?_
  rintro e w1 ⟨⟨B, m, d, ys, rfl, h1, h2, h3⟩, A2⟩
  go_wp2
  go_ret
  exact ⟨⟨_, _, _, ys, rfl, h1, h2, h3⟩, A1.trans A2⟩

end Go.Proofs.YtpkhoklahcgcoaaDoor
