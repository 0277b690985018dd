/-
  The reference's Merge: the lexemes of both lists, or the first error that applies. Condition: the slices hold the lexemes, at most 2^32 of each.
-/
import Derived.Test.YthoppaemlandaaaDoorLexAdd
import Derived.Test.YthoppaemlandaaaDoorLexRefSel
namespace Go.Proofs.YthoppaemlandaaaDoor
open Go.RowKit
open FeatPlain

theorem idx_neg {xs : List Lx} {s : ByteArray} (h : inB (xs.map Lx.id) s = false) : idxL (fun x => decide (x.id = s)) xs = -1 := by
  refine idxL_none (fun y hy => ?_)
  rw [decide_eq_false_iff_not]
  intro e
  have : inB (xs.map Lx.id) s = true := by simp [inB]; exact ⟨y, hy, e⟩
  rw [h] at this
  cases this
theorem idx_pos {xs : List Lx} {s : ByteArray} (h : inB (xs.map Lx.id) s = true) : ∃ k : Nat, idxL (fun x => decide (x.id = s)) xs = (k : Int) ∧ k < xs.length := by
  rcases idxL_cases (fun x => decide (x.id = s)) xs with ⟨_, h2⟩ | ⟨k, x, h1, h2, _⟩
  · simp [inB] at h
    obtain ⟨y, hy, e⟩ := h
    have := List.find?_eq_none.1 h2 y hy
    simp [e] at this
  · exact ⟨k, h1, (List.getElem?_eq_some_iff.1 h2).1⟩
theorem idx_at {xs : List Lx} {k : Nat} {x : Lx} (hx : xs[k]? = some x) : (inB ((xs.take k).map Lx.id) x.id = false → idxL (fun y => decide (y.id = x.id)) xs = (k : Int)) ∧ (inB ((xs.take k).map Lx.id) x.id = true → ∃ j : Nat, idxL (fun y => decide (y.id = x.id)) xs = (j : Int) ∧ j < k) := by
  constructor
  · intro h
    refine idxL_hit (fun y hy => ?_) hx (by simp)
    rw [decide_eq_false_iff_not]
    intro e
    have : inB ((xs.take k).map Lx.id) x.id = true := by simp only [inB, List.any_map, List.any_eq_true]; exact ⟨y, hy, by simp [e]⟩
    rw [h] at this
    cases this
  · intro h
    simp only [inB, List.any_map, List.any_eq_true] at h
    obtain ⟨y, hy, e⟩ := h
    have e' : y.id = x.id := by simpa using e
    obtain ⟨i, hi, rfl⟩ := List.getElem_of_mem hy
    have hik : i < k := by rw [List.length_take] at hi; omega
    have hyi : xs[i]? = some (xs.take k)[i] := by
      have : (xs.take k)[i]? = some (xs.take k)[i] := List.getElem?_eq_getElem hi
      rwa [List.getElem?_take, if_pos hik] at this
    obtain ⟨hil, hyi'⟩ := List.getElem?_eq_some_iff.1 hyi
    have e3 : xs[i].id = x.id := by rw [hyi']; exact e'
    clear hyi hyi' e' e hy
    rcases idxL_cases (fun y => decide (y.id = x.id)) xs with ⟨_, h2⟩ | ⟨j, z, h1, h2, h3⟩
    · have := List.find?_eq_none.1 h2 xs[i] (List.getElem_mem hil)
      simp [e3] at this
    · refine ⟨j, h1, ?_⟩
      rw [List.find?_eq_some_iff_getElem] at h3
      obtain ⟨h4, j', hj', e1, e2⟩ := h3
      have hjj : idxL (fun y => decide (y.id = x.id)) xs = (j' : Int) := idxL_hit (k := j') (x := z) (fun u hu => by
          obtain ⟨a, ha, rfl⟩ := List.getElem_of_mem hu
          have ha' : a < j' := by rw [List.length_take] at ha; omega
          have := e2 a ha'
          rw [List.getElem_take]
          simpa using this) (by rw [List.getElem?_eq_getElem hj', e1]) h4
      have hj2 : j' = j := by rw [h1] at hjj; omega
      subst hj2
      by_cases q : j' ≤ i
      · omega
      · have := e2 i (by omega)
        simp [e3] at this
theorem Ls.len0 {w : World} {A : Option Addr} {n c : Nat} {xs : List Lx} (h : Ls w A n c xs) (e : A = none) : n = 0 := by
  have := h.nl e
  have := h.le
  omega
/-- Cell j of a row of lexemes belongs to lexeme j / 5. -/
theorem Ls.flatCells {w : World} {A : Option Addr} {n c : Nat} {xs : List Lx} (h : Ls w A n c xs) : ∀ ad, A = some ad → ∀ j u, (flatL xs)[j]? = some u → w.cell? (ad.add j) = some u := by
  intro ad had j u hj
  have hlt : j < (flatL xs).length := (List.getElem?_eq_some_iff.1 hj).1
  rw [flatL_length] at hlt
  have hi : j / 5 < xs.length := by omega
  have hx : xs[j / 5]? = some xs[j / 5] := List.getElem?_eq_getElem hi
  obtain ⟨b, off, hA, f0, f1, f2, f3, f4⟩ := h.cells _ _ hx
  obtain ⟨g0, g1, g2, g3, g4⟩ := flatL_get _ _ _ hx
  rw [hA] at had
  cases had
  have hsp : j = j / 5 * 5 ∨ j = j / 5 * 5 + 1 ∨ j = j / 5 * 5 + 2 ∨ j = j / 5 * 5 + 3 ∨ j = j / 5 * 5 + 4 := by omega
  have key : ∀ q : Nat, (⟨b, off, none⟩ : Addr).add q = ⟨b, off + q, none⟩ := fun q => by by_cases h0 : q = 0 <;> simp [Addr.add, h0]
  generalize j / 5 = i at *
  rcases hsp with e | e | e | e | e <;> subst e <;> rw [key]
  · rw [g0] at hj; cases hj; exact f0
  · rw [g1] at hj; cases hj; exact f1
  · rw [g2] at hj; cases hj; exact f2
  · rw [g3] at hj; cases hj; exact f3
  · rw [g4] at hj; cases hj; exact f4

/-- The error that Merge returns. -/
def mergeE (xs ys : List Lx) : Nat := if addB (xs.map Lx.id) (ys.map Lx.id) then (if xs.length + ys.length > 256 then 2 else 0) else 5
def RefMergePost (w : World) (xs ys : List Lx) (e : Ending) (w' : World) : Prop := Aft w w' ∧ ∃ A n c, e = .returned (.tuple #[.slice A n c, .int .i64 (mergeE xs ys : Nat)]) ∧ Ls w' A n c (if mergeE xs ys = 0 then xs ++ ys else [])
theorem inB_append (a b : List ByteArray) (s : ByteArray) : inB (a ++ b) s = (inB a s || inB b s) := by simp [inB]

set_option maxRecDepth 100000 in
set_option maxHeartbeats 3200000 in
theorem refMerge_any (A : Option Addr) (n c : Nat) (xs : List Lx) (B : Option Addr) (m d : Nat) (ys : List Lx) (w : World) (ha : Ls w A n c xs) (hb : Ls w B m d ys) (hn8 : n ≤ 4294967296) (hm8 : m ≤ 4294967296) :
    Calls Tryd.prog 31 #[.slice A n c, .slice B m d] w (RefMergePost w xs ys) := by
  have hnc := ha.le
  have hcm := ha.cmax
  have hmd := hb.le
  have hdm := hb.cmax
  have hlen := Lib.hid ha.len
  have hlenb := Lib.hid hb.len
  obtain ⟨i0, hi, hz0, hz1, hz2⟩ := info_parts Tryd.infoL
  go_enter Tryd.func31, Tryd.ntmps31
  go_wp2
  go_loopw [10] (fun i wr => ∃ k, k ≤ m ∧ i = .int .i64 (k : Nat) ∧ addB (xs.map Lx.id) (ys.map Lx.id) = addB (xs.map Lx.id ++ (ys.take k).map Lx.id) ((ys.drop k).map Lx.id) ∧ Aft w wr) (fun i _ => m - (intOf i).toNat)
  case atStart => exact ⟨0, Nat.zero_le _, rfl, by simp, Aft.refl _⟩
  case round =>
    obtain ⟨k, hk, rfl, heq, haf⟩ := hrel
    have HEQ := Lib.hid heq
    clear heq
    by_cases hlt : k < m
    · obtain ⟨b, off, x, rfl, hx, h5, hlw⟩ := hb.at_ hlt
      obtain ⟨c0, c1, c2, c3, c4⟩ := h5.aft haf
      have HX := Lib.hid hx
      have hdr := Lib.hid (show (ys.drop k).map Lx.id = x.id :: (ys.drop (k + 1)).map Lx.id by rw [drop_of_get hx]; rfl)
      have htk := Lib.hid (show xs.map Lx.id ++ (ys.take (k + 1)).map Lx.id = (xs.map Lx.id ++ (ys.take k).map Lx.id) ++ [x.id] by rw [take_next hx, List.map_append, List.append_assoc]; rfl)
      clear hx h5 hlw
      have HQ := Lib.hid (refIndexL_any A n c xs x.id _ (ha.aft (haf.alloc (.cells #[.string x.id, .string x.cat, .string x.stem, .string x.par, .slice x.fa x.fn x.fc] 27))))
      cases hin : inB (xs.map Lx.id) x.id
      · rw [idx_neg hin] at HQ
        go_wp2_with fail
        refine HQ.out.mono ?_
        rintro e w1 ⟨rfl, A1⟩
        have hA1 := ((Aft.refl wr).alloc _).trans A1
        obtain ⟨d0, d1, d2, d3, d4⟩ := (five_new wr x 27).aft A1
        have haf1 := haf.trans hA1
        have HQ2 := Lib.hid (refIndexL_any _ m d ys x.id _ (hb.aft haf1))
        clear HQ A1 hA1
        cases hin2 : inB ((ys.take k).map Lx.id) x.id
        · rw [(idx_at HX.out).1 hin2] at HQ2
          have HN := Lib.hid (show addB (xs.map Lx.id) (ys.map Lx.id) = addB (xs.map Lx.id ++ (ys.take (k + 1)).map Lx.id) ((ys.drop (k + 1)).map Lx.id) by rw [HEQ.out, hdr.out, addB, inB_append, hin, hin2, htk.out]; rfl)
          clear hin hin2
          go_wp2_with fail
          refine HQ2.out.mono ?_
          rintro e w2 ⟨rfl, A2⟩
          have haf2 := haf1.trans A2
          go_wp2
          go_roundw
          case rel => exact ⟨k + 1, by omega, by go_num, HN.out, haf2⟩
          case measure => simp [intOf]; omega
        · obtain ⟨j, hj, hjk⟩ := (idx_at HX.out).2 hin2
          rw [hj] at HQ2
          have HR := Lib.hid (show mergeE xs ys = 5 by rw [mergeE, HEQ.out, hdr.out, addB, inB_append, hin, hin2]; rfl)
          clear hin hin2 hj
          go_wp2_with fail
          refine HQ2.out.mono ?_
          rintro e w2 ⟨rfl, A2⟩
          have haf2 := haf1.trans A2
          go_wp2
          go_ret2
          exact ⟨haf2, _, _, _, by rw [HR.out]; rfl, by rw [HR.out]; exact Ls.nil (by omega) (fun _ => rfl)⟩
      · obtain ⟨j, hj, hjk⟩ := idx_pos hin
        rw [hj] at HQ
        rw [hlen.out] at hjk
        have HR := Lib.hid (show mergeE xs ys = 5 by rw [mergeE, HEQ.out, hdr.out, addB, inB_append, hin]; rfl)
        clear hin hj
        go_wp2_with fail
        refine HQ.out.mono ?_
        rintro e w1 ⟨rfl, A1⟩
        have hA1 := haf.trans (((Aft.refl wr).alloc _).trans A1)
        go_wp2
        go_ret2
        exact ⟨hA1, _, _, _, by rw [HR.out]; rfl, by rw [HR.out]; exact Ls.nil (by omega) (fun _ => rfl)⟩
    · obtain rfl : k = m := by omega
      have HT := Lib.hid (show addB (xs.map Lx.id) (ys.map Lx.id) = true by rw [HEQ.out, List.drop_of_length_le (by rw [hlenb.out]; exact Nat.le_refl _)]; rfl)
      by_cases hbig : n + k > 256
      · have HR := Lib.hid (show mergeE xs ys = 2 by rw [mergeE, HT.out, hlen.out, hlenb.out, if_pos hbig]; rfl)
        go_wp2
        go_ret2
        exact ⟨haf, _, _, _, by rw [HR.out]; rfl, by rw [HR.out]; exact Ls.nil (by omega) (fun _ => rfl)⟩
      · have HR := Lib.hid (show mergeE xs ys = 0 by rw [mergeE, HT.out, hlen.out, hlenb.out, if_neg hbig]; rfl)
        have own0 : (wr.alloc (.cells #[] 27)).ownsRow wr.heap.size 27 5 (.slice (some ⟨wr.heap.size, 0, none⟩) 0 0) 0 [] := World.ownsRow_lit wr #[] 0 (Nat.le_refl _) (by unfold maxLen; omega) rfl
        have HO := Lib.hid own0
        have HA1 := Lib.hid (haf.alloc (.cells #[] 27))
        clear own0
        go_wp2_with (first | (at_builtin; refine wpList_append_any rfl (.tmp 35) (.tmp 36) 22 rfl wr.heap.size 27 i0 _ 5 88 Tryd.underlying22 hi hz0 hz1 hz2 rfl (by decide) _ _ _ rfl HO.out A n c (flatL xs) rfl (by rw [flatL_length, hlen.out]) (fun e => ⟨ha.len0 e, ha.nl e⟩) (ha.aft HA1.out).flatCells (flatL_one _) (by unfold maxLen; omega) (by omega) (by simp) ?_; intro v1 w1 own1 grow1; have A1 : Aft w w1 := HA1.out.grown grow1 (fun r hr => by have := (HO.out.lt r hr).1; have := haf.size; omega)) | (at_builtin; refine wpList_append_any rfl (.tmp 37) (.tmp 38) 22 rfl wr.heap.size 27 i0 _ 5 88 Tryd.underlying22 hi hz0 hz1 hz2 rfl (by decide) _ _ _ rfl own1 B k d (flatL ys) rfl (by rw [flatL_length, hlenb.out]) (fun e => ⟨hb.len0 e, hb.nl e⟩) (hb.aft A1).flatCells (flatL_one _) (by unfold maxLen; omega) (by omega) (by have := grow1.size; simp at this; omega) ?_; intro v2 w2 own2 grow2))
        have A2 : Aft w w2 := A1.grown grow2 (fun r hr => by have := (own1.lt r hr).1; have := haf.size; omega)
        rw [Nat.zero_add, List.nil_append, ← flatL_append] at own2
        obtain ⟨A3, c3, rfl, s3⟩ := Ls.of_row own2 (by rw [List.length_append, hlen.out, hlenb.out]) (by omega) (fun y hy => by
          rcases List.mem_append.1 hy with h | h
          · exact (ha.lw y h).aft A2
          · exact (hb.lw y h).aft A2)
        clear own1 own2 grow1 grow2
        go_wp2
        go_ret2
        exact ⟨A2, _, _, _, by rw [HR.out]; rfl, by rw [HR.out]; exact s3⟩
end Go.Proofs.YthoppaemlandaaaDoor
