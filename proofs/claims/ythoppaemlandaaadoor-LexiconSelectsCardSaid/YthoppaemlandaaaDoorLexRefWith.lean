/-
  The reference's With returns the lexemes whose features contain all of the given ones; Contains tells whether they do. Condition: the slices hold the features and the lexemes.
-/
import Derived.Test.YthoppaemlandaaaDoorLexWith
import Derived.Test.YthoppaemlandaaaDoorLexRefSel
namespace Go.Proofs.YthoppaemlandaaaDoor
open Go.RowKit
open FeatPlain

set_option maxRecDepth 100000 in
set_option maxHeartbeats 1600000 in
theorem refContains_any (A : Option Addr) (n c : Nat) (xs : List Ft) (B : Option Addr) (m d : Nat) (fs : List Ft) (w : World) (ha : Sl w A n c xs) (hb : Sl w B m d fs) :
    Calls Tryd.prog 53 #[.slice A n c, .slice B m d] w (BoolPost w (fs.all (inF xs))) := by
  have hn := ha.max
  have hnc := ha.le
  have hcm := ha.cmax
  have hlen := Lib.hid ha.len
  have hm := hb.max
  have hmd := hb.le
  have hdm := hb.cmax
  have hlenb := Lib.hid hb.len
  go_enter Tryd.func53, Tryd.ntmps53
  go_wp2
  go_loopw [12] (fun i wr => ∃ k, k ≤ m ∧ i = .int .i64 (k : Nat) ∧ (fs.take k).all (inF xs) = true ∧ Aft w wr) (fun i _ => m - (intOf i).toNat)
  case atStart => exact ⟨0, Nat.zero_le _, rfl, by simp, Aft.refl _⟩
  case round =>
    obtain ⟨k, hk, rfl, hall, haf⟩ := hrel
    have HALL := Lib.hid hall
    clear hall
    by_cases hlt : k < m
    · obtain ⟨b, off, f, rfl, hf, h1, h2⟩ := hb.at_ hlt
      have c1 := haf.cell h1
      have c2 := haf.cell h2
      have HF := Lib.hid hf
      clear hf h1 h2
      obtain ⟨Wo, rfl⟩ : ∃ Wo, Wo = wr := ⟨wr, rfl⟩
      have d1 : (Wo.alloc (.cells #[.string f.1, .string f.2] 57)).cell? ⟨Wo.heap.size, 0, none⟩ = some (.string f.1) := by simp
      have d2 : (Wo.alloc (.cells #[.string f.1, .string f.2] 57)).cell? ⟨Wo.heap.size, 1, none⟩ = some (.string f.2) := by simp
      have haf1 := haf.alloc (.cells #[.string f.1, .string f.2] 57)
      go_wp2
      go_loopw [7, 18] (fun v i wr => ∃ j, j ≤ n ∧ i = .int .i64 (j : Nat) ∧ v = .bool (inF (xs.take j) f) ∧ Aft (Wo.alloc (.cells #[.string f.1, .string f.2] 57)) wr) (fun _ i _ => n - (intOf i).toNat)
      case atStart => exact ⟨0, Nat.zero_le _, rfl, rfl, Aft.refl _⟩
      case round =>
        obtain ⟨j, hj, rfl, rfl, hafj⟩ := hrel
        have e1 := hafj.cell d1
        have e2 := hafj.cell d2
        by_cases hltj : j < n
        · obtain ⟨b', off', g, rfl, hg, g1, g2⟩ := ha.at_ hltj
          have q1 := (haf1.trans hafj).cell g1
          have q2 := (haf1.trans hafj).cell g2
          have hA2 := (Aft.refl wr).alloc (.cells #[.string g.1, .string g.2] 57)
          have e1' := hA2.cell e1
          have e2' := hA2.cell e2
          have r1 : (wr.alloc (.cells #[.string g.1, .string g.2] 57)).cell? ⟨wr.heap.size, 0, none⟩ = some (.string g.1) := by simp
          have r2 : (wr.alloc (.cells #[.string g.1, .string g.2] 57)).cell? ⟨wr.heap.size, 1, none⟩ = some (.string g.2) := by simp
          have HST := Lib.hid (show inF (xs.take (j + 1)) f = (inF (xs.take j) f || feq f g) by
            rw [take_next hg, inF_snoc]
            congr 1
            unfold feq
            exact decide_eq_decide.2 ⟨Eq.symm, Eq.symm⟩)
          clear hg g1 g2 hA2
          cases hin : inF (xs.take j) f
          · rw [hin] at HST
            go_wp2
            go_roundw
            case rel => exact ⟨j + 1, by omega, by go_num, by rw [HST.out]; rfl, hafj.alloc _⟩
            case measure => simp [intOf]; omega
          · rw [hin] at HST
            go_wp2
            go_roundw
            case rel => exact ⟨j + 1, by omega, by go_num, by rw [HST.out]; rfl, hafj.alloc _⟩
            case measure => simp [intOf]; omega
        · obtain rfl : j = n := by omega
          rw [List.take_of_length_le (by rw [hlen.out]; exact Nat.le_refl _)]
          cases hin : inF xs f
          · have HR := Lib.hid (show fs.all (inF xs) = false by
              rw [List.all_eq_false]
              exact ⟨f, List.mem_of_getElem? HF.out, by simp [hin]⟩)
            clear hin
            go_wp2
            go_ret
            exact ⟨by rw [HR.out]; rfl, haf1.trans hafj⟩
          · have HN := Lib.hid (show (fs.take (k + 1)).all (inF xs) = true by rw [take_next HF.out, List.all_append, HALL.out]; simp [hin])
            clear hin
            go_wp2
            go_roundw
            case rel => exact ⟨k + 1, by omega, by go_num, HN.out, haf1.trans hafj⟩
            case measure => simp [intOf]; omega
    · obtain rfl : k = m := by omega
      have HR := Lib.hid (show fs.all (inF xs) = true by
        have := HALL.out
        rwa [List.take_of_length_le (by rw [hlenb.out]; exact Nat.le_refl _)] at this)
      go_wp2
      go_ret
      exact ⟨by rw [HR.out]; rfl, haf⟩

set_option maxRecDepth 100000 in
set_option maxHeartbeats 1600000 in
theorem refWith_any (A : Option Addr) (n c : Nat) (xs : List Lx) (B : Option Addr) (m d : Nat) (fs : List Ft) (w : World) (ha : Ls w A n c xs) (hsz : n ≤ 4294967296) (hb : Sl w B m d fs) :
    Calls Tryd.prog 28 #[.slice A n c, .slice B m d] w (RefSelPost w (xs.filter fun x => fs.all (inF x.fs))) := by
  have hn := ha.max
  have hnc := ha.le
  have hcm := ha.cmax
  have hlen := Lib.hid ha.len
  obtain ⟨i0, hi, hz0, hz1, hz2⟩ := info_parts Tryd.infoL
  go_enter Tryd.func28, Tryd.ntmps28
  go_wp2
  have own0 : (w.alloc (.cells #[] 27)).ownsRow w.heap.size 27 5 (.slice (some ⟨w.heap.size, 0, none⟩) 0 0) 0 [] := World.ownsRow_lit w #[] 0 (Nat.le_refl _) (by unfold maxLen; omega) rfl
  go_loopw [5, 11] (fun v i wr => ∃ k out, k ≤ n ∧ i = .int .i64 (k : Nat) ∧ wr.ownsRow w.heap.size 27 5 v out.length (flatL out) ∧ out.length ≤ k ∧ (xs.filter fun x => fs.all (inF x.fs)) = out ++ ((xs.drop k).filter fun x => fs.all (inF x.fs)) ∧ Aft w wr) (fun _ i _ => n - (intOf i).toNat)
  case atStart => exact ⟨0, [], Nat.zero_le _, rfl, own0, by simp, by simp, (Aft.refl _).alloc _⟩
  case round =>
    obtain ⟨k, out, hk, rfl, own, le, eq, haf⟩ := hrel
    have HE := Lib.hid eq
    have HOWN := Lib.hid own
    clear eq own own0
    by_cases hlt : k < n
    · obtain ⟨b, off, x, rfl, hx, h5, hlw⟩ := ha.at_ hlt
      obtain ⟨c0, c1, c2, c3, c4⟩ := h5.aft haf
      have HX := Lib.hid hx
      have hA0 := (Aft.refl wr).alloc (.cells #[.string x.id, .string x.cat, .string x.stem, .string x.par, .slice x.fa x.fn x.fc] 27)
      have O1 := Lib.hid (own_aft HOWN.out hA0)
      have haf1 := haf.trans hA0
      have hs1 := haf1.size
      have HCT := Lib.hid (refContains_any x.fa x.fn x.fc x.fs B m d fs _ (hlw.fts.aft haf1) (hb.aft haf1))
      have hbx := Lib.hid (BoxL.new wr x)
      clear hx h5 hlw hA0 hs1
      cases hh : fs.all (inF x.fs)
      · rw [hh] at HCT
        have HN := Lib.hid (show (xs.filter fun x => fs.all (inF x.fs)) = out ++ ((xs.drop (k + 1)).filter fun x => fs.all (inF x.fs)) by rw [HE.out, drop_of_get HX.out, List.filter_cons, if_neg (by rw [hh]; simp)])
        clear hh
        go_wp2_with fail
        refine HCT.out.mono ?_
        rintro e w2 ⟨rfl, A2⟩
        have O2 := Lib.hid (own_aft O1.out A2)
        clear HCT
        go_wp2
        go_roundw
        case rel => exact ⟨k + 1, out, by omega, by go_num, O2.out, by omega, HN.out, haf1.trans A2⟩
        case measure => simp [intOf]; omega
      · rw [hh] at HCT
        have HN := Lib.hid (show (xs.filter fun x => fs.all (inF x.fs)) = (out ++ [x]) ++ ((xs.drop (k + 1)).filter fun x => fs.all (inF x.fs)) by rw [HE.out, drop_of_get HX.out, List.filter_cons, if_pos (by rw [hh])]; simp)
        clear hh
        go_wp2_with fail
        refine HCT.out.mono ?_
        rintro e w2 ⟨rfl, A2⟩
        have O2 := Lib.hid (own_aft O1.out A2)
        have haf2 := haf1.trans A2
        have hs2 := haf2.size
        obtain ⟨k0, k1, k2, k3, k4⟩ := (hbx.out.aft A2).five
        simp only [Nat.zero_add] at k1 k2 k3 k4
        clear HCT
        go_wp2_with (at_builtin; refine wpList_append_own _ rfl _ _ 22 rfl w.heap.size 27 i0 _ 5 88 Tryd.underlying22 hi hz0 hz1 hz2 rfl (by decide) _ _ _ rfl (O2.out.alloc _) ⟨w2.heap.size, 0, none⟩ 1 1 (flatL [x]) rfl rfl (one_cellsL _ x _ rfl) (flatL_one _) (by unfold maxLen; omega) (by omega) (by simp; omega) ?_; intro v' w3 own3 grow3 _)
        go_roundw
        case rel =>
          refine ⟨k + 1, out ++ [x], by omega, by go_num, ?_, by simp; omega, HN.out, (haf2.alloc _).grown grow3 (row_ltL O2.out)⟩
          rw [flatL_append, List.length_append]; exact own3
        case measure => simp [intOf]; omega
    · obtain rfl : k = n := by omega
      have HR := Lib.hid (show (xs.filter fun x => fs.all (inF x.fs)) = out by rw [HE.out, List.drop_of_length_le (by rw [hlen.out]; exact Nat.le_refl _)]; simp)
      obtain ⟨A3, c3, rfl, s3⟩ := Ls.of_row HOWN.out rfl (by omega) (fun y hy => (ha.lw y (by rw [← HR.out] at hy; exact (List.mem_filter.1 hy).1)).aft haf)
      go_wp2
      go_ret
      exact ⟨⟨_, _, _, rfl, by rw [HR.out]; exact s3⟩, haf⟩
end Go.Proofs.YthoppaemlandaaaDoor
