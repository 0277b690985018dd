/-
  The reference's Category and Stem return the lexemes with a category and a stem, in their order. Condition: the slice holds the lexemes, at most 2^32 of them.
-/
import Derived.Test.YthoppaemlandaaaDoorLexFilter
namespace Go.Proofs.YthoppaemlandaaaDoor
open Go.RowKit
open FeatPlain

def RefSelPost (w : World) (ys : List Lx) (e : Ending) (w' : World) : Prop := (∃ A n c, e = .returned (.slice A n c) ∧ Ls w' A n c ys) ∧ Aft w w'

set_option maxRecDepth 100000 in
set_option maxHeartbeats 1600000 in
theorem refCategory_any (A : Option Addr) (n c : Nat) (xs : List Lx) (s : ByteArray) (w : World) (ha : Ls w A n c xs) (hsz : n ≤ 4294967296) :
    Calls Tryd.prog 25 #[.slice A n c, .string s] w (RefSelPost w (xs.filter fun x => decide (x.cat = s))) := by
  have hn := ha.max
  have hnc := ha.le
  have hcm := ha.cmax
  have hlen := Lib.hid ha.len
  obtain ⟨i0, hi, hz0, hz1, hz2⟩ := info_parts Tryd.infoL
  go_enter Tryd.func25, Tryd.ntmps25
  go_wp2
  have own0 : (w.alloc (.cells #[] 27)).ownsRow w.heap.size 27 5 (.slice (some ⟨w.heap.size, 0, none⟩) 0 0) 0 [] := World.ownsRow_lit w #[] 0 (Nat.le_refl _) (by unfold maxLen; omega) rfl
  go_loopw [5, 11] (fun v i wr => ∃ k out, k ≤ n ∧ i = .int .i64 (k : Nat) ∧ wr.ownsRow w.heap.size 27 5 v out.length (flatL out) ∧ out.length ≤ k ∧ (xs.filter fun x => decide (x.cat = s)) = out ++ ((xs.drop k).filter fun x => decide (x.cat = s)) ∧ Aft w wr) (fun _ i _ => n - (intOf i).toNat)
  case atStart => exact ⟨0, [], Nat.zero_le _, rfl, own0, by simp, by simp, (Aft.refl _).alloc _⟩
  case round =>
    obtain ⟨k, out, hk, rfl, own, le, eq, haf⟩ := hrel
    have HE := Lib.hid eq
    have HOWN := Lib.hid own
    clear eq own own0
    by_cases hlt : k < n
    · obtain ⟨b, off, x, rfl, hx, h5, hlw⟩ := ha.at_ hlt
      obtain ⟨c0, c1, c2, c3, c4⟩ := h5.aft haf
      have HX := Lib.hid hx
      have hq := toList_beq x.cat s
      have hA0 := (Aft.refl wr).alloc (.cells #[.string x.id, .string x.cat, .string x.stem, .string x.par, .slice x.fa x.fn x.fc] 27)
      have O1 := Lib.hid (own_aft HOWN.out hA0)
      have haf1 := haf.trans hA0
      have hs1 := haf1.size
      clear hx h5 hlw hA0
      by_cases hh : x.cat = s
      · rw [decide_eq_true hh] at hq
        have HN := Lib.hid (show (xs.filter fun x => decide (x.cat = s)) = (out ++ [x]) ++ ((xs.drop (k + 1)).filter fun x => decide (x.cat = s)) by rw [HE.out, drop_of_get HX.out, List.filter_cons, if_pos (by simp [hh])]; simp)
        clear hh
        go_wp2_with (at_builtin; refine wpList_append_own _ rfl _ _ 22 rfl w.heap.size 27 i0 _ 5 88 Tryd.underlying22 hi hz0 hz1 hz2 rfl (by decide) _ _ _ rfl (O1.out.alloc _) ⟨wr.heap.size + 1, 0, none⟩ 1 1 (flatL [x]) rfl rfl (one_cellsL _ x _ (by simp)) (flatL_one _) (by unfold maxLen; omega) (by omega) (by simp at hs1 ⊢; omega) ?_; intro v' w3 own3 grow3 _)
        go_roundw
        case rel =>
          refine ⟨k + 1, out ++ [x], by omega, by go_num, ?_, by simp; omega, HN.out, (haf1.alloc _).grown grow3 (row_ltL O1.out)⟩
          rw [flatL_append, List.length_append]; exact own3
        case measure => simp [intOf]; omega
      · rw [decide_eq_false hh] at hq
        have HN := Lib.hid (show (xs.filter fun x => decide (x.cat = s)) = out ++ ((xs.drop (k + 1)).filter fun x => decide (x.cat = s)) by rw [HE.out, drop_of_get HX.out, List.filter_cons, if_neg (by simp [hh])])
        clear hh
        go_wp2
        go_roundw
        case rel => exact ⟨k + 1, out, by omega, by go_num, O1.out, by omega, HN.out, haf1⟩
        case measure => simp [intOf]; omega
    · obtain rfl : k = n := by omega
      have HR := Lib.hid (show (xs.filter fun x => decide (x.cat = s)) = out by rw [HE.out, List.drop_of_length_le (by rw [hlen.out]; exact Nat.le_refl _)]; simp)
      obtain ⟨A3, c3, rfl, s3⟩ := Ls.of_row HOWN.out rfl (by omega) (fun y hy => (ha.lw y (by rw [← HR.out] at hy; exact (List.mem_filter.1 hy).1)).aft haf)
      go_wp2
      go_ret
      exact ⟨⟨_, _, _, rfl, by rw [HR.out]; exact s3⟩, haf⟩

set_option maxRecDepth 100000 in
set_option maxHeartbeats 1600000 in
theorem refStem_any (A : Option Addr) (n c : Nat) (xs : List Lx) (s : ByteArray) (w : World) (ha : Ls w A n c xs) (hsz : n ≤ 4294967296) :
    Calls Tryd.prog 26 #[.slice A n c, .string s] w (RefSelPost w (xs.filter fun x => decide (x.stem = s))) := by
  have hn := ha.max
  have hnc := ha.le
  have hcm := ha.cmax
  have hlen := Lib.hid ha.len
  obtain ⟨i0, hi, hz0, hz1, hz2⟩ := info_parts Tryd.infoL
  go_enter Tryd.func26, Tryd.ntmps26
  go_wp2
  have own0 : (w.alloc (.cells #[] 27)).ownsRow w.heap.size 27 5 (.slice (some ⟨w.heap.size, 0, none⟩) 0 0) 0 [] := World.ownsRow_lit w #[] 0 (Nat.le_refl _) (by unfold maxLen; omega) rfl
  go_loopw [5, 11] (fun v i wr => ∃ k out, k ≤ n ∧ i = .int .i64 (k : Nat) ∧ wr.ownsRow w.heap.size 27 5 v out.length (flatL out) ∧ out.length ≤ k ∧ (xs.filter fun x => decide (x.stem = s)) = out ++ ((xs.drop k).filter fun x => decide (x.stem = s)) ∧ Aft w wr) (fun _ i _ => n - (intOf i).toNat)
  case atStart => exact ⟨0, [], Nat.zero_le _, rfl, own0, by simp, by simp, (Aft.refl _).alloc _⟩
  case round =>
    obtain ⟨k, out, hk, rfl, own, le, eq, haf⟩ := hrel
    have HE := Lib.hid eq
    have HOWN := Lib.hid own
    clear eq own own0
    by_cases hlt : k < n
    · obtain ⟨b, off, x, rfl, hx, h5, hlw⟩ := ha.at_ hlt
      obtain ⟨c0, c1, c2, c3, c4⟩ := h5.aft haf
      have HX := Lib.hid hx
      have hq := toList_beq x.stem s
      have hA0 := (Aft.refl wr).alloc (.cells #[.string x.id, .string x.cat, .string x.stem, .string x.par, .slice x.fa x.fn x.fc] 27)
      have O1 := Lib.hid (own_aft HOWN.out hA0)
      have haf1 := haf.trans hA0
      have hs1 := haf1.size
      clear hx h5 hlw hA0
      by_cases hh : x.stem = s
      · rw [decide_eq_true hh] at hq
        have HN := Lib.hid (show (xs.filter fun x => decide (x.stem = s)) = (out ++ [x]) ++ ((xs.drop (k + 1)).filter fun x => decide (x.stem = s)) by rw [HE.out, drop_of_get HX.out, List.filter_cons, if_pos (by simp [hh])]; simp)
        clear hh
        go_wp2_with (at_builtin; refine wpList_append_own _ rfl _ _ 22 rfl w.heap.size 27 i0 _ 5 88 Tryd.underlying22 hi hz0 hz1 hz2 rfl (by decide) _ _ _ rfl (O1.out.alloc _) ⟨wr.heap.size + 1, 0, none⟩ 1 1 (flatL [x]) rfl rfl (one_cellsL _ x _ (by simp)) (flatL_one _) (by unfold maxLen; omega) (by omega) (by simp at hs1 ⊢; omega) ?_; intro v' w3 own3 grow3 _)
        go_roundw
        case rel =>
          refine ⟨k + 1, out ++ [x], by omega, by go_num, ?_, by simp; omega, HN.out, (haf1.alloc _).grown grow3 (row_ltL O1.out)⟩
          rw [flatL_append, List.length_append]; exact own3
        case measure => simp [intOf]; omega
      · rw [decide_eq_false hh] at hq
        have HN := Lib.hid (show (xs.filter fun x => decide (x.stem = s)) = out ++ ((xs.drop (k + 1)).filter fun x => decide (x.stem = s)) by rw [HE.out, drop_of_get HX.out, List.filter_cons, if_neg (by simp [hh])])
        clear hh
        go_wp2
        go_roundw
        case rel => exact ⟨k + 1, out, by omega, by go_num, O1.out, by omega, HN.out, haf1⟩
        case measure => simp [intOf]; omega
    · obtain rfl : k = n := by omega
      have HR := Lib.hid (show (xs.filter fun x => decide (x.stem = s)) = out by rw [HE.out, List.drop_of_length_le (by rw [hlen.out]; exact Nat.le_refl _)]; simp)
      obtain ⟨A3, c3, rfl, s3⟩ := Ls.of_row HOWN.out rfl (by omega) (fun y hy => (ha.lw y (by rw [← HR.out] at hy; exact (List.mem_filter.1 hy).1)).aft haf)
      go_wp2
      go_ret
      exact ⟨⟨_, _, _, rfl, by rw [HR.out]; exact s3⟩, haf⟩
end Go.Proofs.YthoppaemlandaaaDoor
