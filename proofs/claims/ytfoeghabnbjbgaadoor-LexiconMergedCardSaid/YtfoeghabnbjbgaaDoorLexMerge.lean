/-
  Merge returns copies of the lexemes of both lists, or the first error that applies. Conditions: the slices hold the lexemes, at most 2^32 of each, none of which has more features than an argument can hold.
-/
import Derived.Test.YtfoeghabnbjbgaaDoorLexConcat
import Derived.Test.YtfoeghabnbjbgaaDoorLexFilter
namespace Go.Proofs.YtfoeghabnbjbgaaDoor
open Go.RowKit Go.Maps Go.WideMaps
open FeatPlain

def MergePost (w : World) (xs ys : List Lx) (e : Ending) (w' : World) : Prop := Aft w w' ∧ ∃ A n c zs, e = .returned (.tuple #[.slice A n c, .int .i64 (mergeE xs ys : Nat)]) ∧ Ls w' A n c zs ∧ zs.map Lx.say = (if mergeE xs ys = 0 then xs ++ ys else []).map Lx.say
theorem pair_newL (w : World) (a b : Value) (t : TypeId) : (w.alloc (.cells #[a, b] t)).cell? ⟨w.heap.size, 0, none⟩ = some a ∧ (w.alloc (.cells #[a, b] t)).cell? ⟨w.heap.size, 0 + 1, none⟩ = some b := ⟨by simp, by simp⟩

set_option maxRecDepth 100000 in
set_option maxHeartbeats 3200000 in
theorem Merge_any (A : Option Addr) (n c : Nat) (xs : List Lx) (B : Option Addr) (m d : Nat) (ys : List Lx) (w : World) (ha : Ls w A n c xs) (hb : Ls w B m d ys) (hfx : ∀ x ∈ xs, x.fn * 32 ≤ 140737488355328) (hfy : ∀ x ∈ ys, x.fn * 32 ≤ 140737488355328) (hn8 : n ≤ 4294967296) (hm8 : m ≤ 4294967296) :
    Calls Tryd.prog 13 #[.slice A n c, .slice B m d] w (MergePost w xs ys) := by
  have hnc := ha.le
  have hcm := ha.cmax
  have hmd := hb.le
  have hdm := hb.cmax
  have hlen := Lib.hid ha.len
  have hlenb := Lib.hid hb.len
  have HFN := Lib.hid (show ∀ x ∈ xs ++ ys, x.fn * 32 ≤ 140737488355328 from fun x hx => by
    rcases List.mem_append.1 hx with h | h
    · exact hfx x h
    · exact hfy x h)
  clear hfx hfy
  obtain ⟨i0, hi, hz0, hz1, hz2⟩ := info_parts Tryd.infoL
  have hmm := run_makeMapS
  go_enter Tryd.func13, Tryd.ntmps13
  go_wp2
  go_loopw [15] (fun i wr => ∃ k D, k ≤ n ∧ i = .int .i64 (k : Nat) ∧ SetIn wr w.heap.size k D ((xs.take k).map Lx.id) ∧ Aft w wr) (fun i _ => n - (intOf i).toNat)
  case atStart => exact ⟨0, .map [], Nat.zero_le _, rfl, ⟨World.ownsMap_made _ _ _ _, fun s => rfl⟩, (Aft.refl _).alloc _⟩
  case round =>
    obtain ⟨k, D, hk, rfl, hset, haf⟩ := hrel
    have HS := Lib.hid hset
    clear hset
    by_cases hlt : k < n
    · obtain ⟨b, off, x, rfl, hx, h5, hlw⟩ := ha.at_ hlt
      obtain ⟨c0, c1, c2, c3, c4⟩ := h5.aft haf
      have HX := Lib.hid hx
      have hid := hlw.wid
      have hA1 := (Aft.refl wr).alloc (.cells #[.string x.id, .string x.cat, .string x.stem, .string x.par, .slice x.fa x.fn x.fc] 30)
      have HS1 := Lib.hid (HS.out.aft hA1)
      have haf1 := haf.trans hA1
      clear hx h5 hlw hA1
      go_wp2_with (at_mapUpdate; refine wpList_mapUpdate_own _ rfl _ _ _ 54 rfl 9 4 lawK Tryd.underlying54 _ w.heap.size k D rfl HS1.out.own (by unfold maxLen; omega) _ _ _ rfl rfl (keyOf_string_mk Tryd.underlying9 hid) _ [] (plainElem_bool Tryd.underlying4 true) ?_; intro w2 own2 grow2)
      go_roundw
      case rel => exact ⟨k + 1, _, by omega, by go_num, by rw [take_next HX.out, List.map_append]; exact HS1.out.put x.id own2, haf1.grown grow2 (fun j hj => by cases hj; exact Nat.le_refl _)⟩
      case measure => simp [intOf]; omega
    · obtain rfl : k = n := by omega
      have hs := HS.out
      rw [List.take_of_length_le (by rw [hlen.out]; exact Nat.le_refl _)] at hs
      have HADD := Lib.hid (addIDs_any B m d ys w.heap.size k D (xs.map Lx.id) w wr hb haf (Nat.le_refl _) hs hm8 hn8)
      clear hs HS
      cases hT : addB (xs.map Lx.id) (ys.map Lx.id)
      · rw [hT] at HADD
        have HR := Lib.hid (show mergeE xs ys = 5 by rw [mergeE, hT]; rfl)
        clear hT
        go_wp2_with fail
        refine HADD.out.mono ?_
        rintro e w1 ⟨rfl, A1⟩
        go_wp2
        go_ret2
        exact ⟨A1, _, _, _, [], by rw [HR.out]; rfl, Ls.nil (by omega) (fun _ => rfl), by rw [HR.out]; rfl⟩
      · rw [hT] at HADD
        by_cases hbig : k + m > 256
        · have HR := Lib.hid (show mergeE xs ys = 2 by rw [mergeE, hT, hlen.out, hlenb.out, if_pos hbig]; rfl)
          clear hT
          go_wp2_with fail
          refine HADD.out.mono ?_
          rintro e w1 ⟨rfl, A1⟩
          go_wp2
          go_ret2
          exact ⟨A1, _, _, _, [], by rw [HR.out]; rfl, Ls.nil (by omega) (fun _ => rfl), by rw [HR.out]; rfl⟩
        · have HR := Lib.hid (show mergeE xs ys = 0 by rw [mergeE, hT, hlen.out, hlenb.out, if_neg hbig]; rfl)
          clear hT
          go_wp2_with fail
          refine HADD.out.mono ?_
          rintro e w1 ⟨rfl, A1⟩
          have A2 := A1.alloc (.cells #[.slice A k c, .slice B m d] 23)
          have hp := pair_newL w1 (.slice A k c) (.slice B m d) 23
          have HC := Lib.hid (concat_any w1.heap.size 0 A k c xs B m d ys _ (ha.aft A2) (hb.aft A2) hp.1 hp.2 (by omega))
          have HA2 := Lib.hid A2
          clear hp A2 HADD
          go_wp2_with fail
          refine HC.out.mono ?_
          rintro e w5 ⟨⟨Q, qn, qc, rfl, hq⟩, A5⟩
          have A05 := HA2.out.trans A5
          have hqn : qn = k + m := by rw [← hq.len, List.length_append, hlen.out, hlenb.out]
          have hqc := hq.le
          have hqm := hq.cmax
          clear HC A5 HA2
          go_wp2
          go_loopw [9, 38] (fun v i w6 => ∃ j out, j ≤ qn ∧ i = .int .i64 (j : Nat) ∧ w6.ownsRow w5.heap.size 30 5 v out.length (flatL out) ∧ out.length ≤ j ∧ (∀ y ∈ out, Lc w6 y) ∧ out.map Lx.say = ((xs ++ ys).take j).map Lx.say ∧ Aft w5 w6) (fun _ i _ => qn - (intOf i).toNat)
          case atStart => exact ⟨0, [], Nat.zero_le _, rfl, World.ownsRow_nil _ _ _ _, by simp, (fun y h => by cases h), by simp, Aft.refl _⟩
          case round =>
            obtain ⟨j, out, hj, rfl, own, le, hlc, eq, haf6⟩ := hrel
            have HE := Lib.hid eq
            have HOWN := Lib.hid own
            have HLC := Lib.hid hlc
            clear eq own hlc
            by_cases hlt : j < qn
            · obtain ⟨b, off, x, rfl, hx, h5, hlw⟩ := hq.at_ hlt
              obtain ⟨c0, c1, c2, c3, c4⟩ := h5.aft haf6
              have HX := Lib.hid hx
              have hfx := HFN.out x (List.mem_of_getElem? hx)
              obtain ⟨d0, d1, d2, d3, d4⟩ := five_new wr x 30
              have hA1 := (Aft.refl wr).alloc (.cells #[.string x.id, .string x.cat, .string x.stem, .string x.par, .slice x.fa x.fn x.fc] 30)
              have HCL := Lib.hid (cloneL_any x _ (hlw.aft (haf6.trans hA1)) hfx)
              have H1 := Lib.hid hA1
              clear hx h5 hlw hA1
              go_wp2_with fail
              refine HCL.out.mono ?_
              rintro e w7 ⟨y, rfl, hsay, hy, A7⟩
              clear HCL d0 d1 d2 d3 d4
              have A02 := H1.out.trans A7
              have O1 := Lib.hid (own_aft HOWN.out A02)
              have L1 := Lib.hid (fun y hy => (HLC.out y hy).aft A02)
              have HY := Lib.hid hy
              have HN := Lib.hid (show (out ++ [y]).map Lx.say = ((xs ++ ys).take (j + 1)).map Lx.say by rw [take_next HX.out, List.map_append, List.map_append, HE.out, List.map_singleton, List.map_singleton, hsay])
              have hs1 := (haf6.trans A02).size
              have haf7 := Lib.hid (haf6.trans A02)
              clear A7 A02 hy hsay
              go_wp2_with (at_builtin; refine wpList_append_own _ rfl _ _ 23 rfl w5.heap.size 30 i0 _ 5 88 Tryd.underlying23 hi hz0 hz1 hz2 rfl (by decide) _ _ _ rfl (O1.out.alloc _) ⟨w7.heap.size, 0, none⟩ 1 1 (flatL [y]) rfl rfl (one_cellsL _ y _ rfl) (flatL_one _) (by unfold maxLen; omega) (by omega) (by simp; omega) ?_; intro v' w3 own3 grow3 _)
              go_roundw
              case rel =>
                refine ⟨j + 1, out ++ [y], by omega, by go_num, ?_, by simp; omega, lc_push O1.out L1.out HY.out grow3, HN.out, (haf7.out.alloc _).grown grow3 (row_ltL O1.out)⟩
                rw [flatL_append, List.length_append]; exact own3
              case measure => simp [intOf]; omega
            · obtain rfl : j = qn := by omega
              obtain ⟨A3, c3, rfl, s3⟩ := Ls.of_row HOWN.out rfl (by omega) (fun y hy => (HLC.out y hy).lw)
              have HQ := Lib.hid (show out.map Lx.say = (xs ++ ys).map Lx.say by rw [HE.out, List.take_of_length_le (by rw [hq.len]; exact Nat.le_refl _)])
              go_wp2
              go_ret2
              exact ⟨A05.trans haf6, _, _, _, out, by rw [HR.out]; rfl, s3, by rw [HR.out]; exact HQ.out⟩
end Go.Proofs.YtfoeghabnbjbgaaDoor
