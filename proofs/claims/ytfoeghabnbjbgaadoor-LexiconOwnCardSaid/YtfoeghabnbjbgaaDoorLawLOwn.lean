/-
  LexiconOwn: in a valid lexicon the lexeme at an index is found by its ID, and by its category and stem: the law returns true. Conditions: none (every list of letters and of lexemes, of any size that an argument can have, and every number).
-/
import Derived.Test.YtfoeghabnbjbgaaDoorLexAwakeW
import Derived.Test.YtfoeghabnbjbgaaDoorLexFrame
import Derived.Test.YtfoeghabnbjbgaaDoorLexFind
import Derived.Test.YtfoeghabnbjbgaaDoorAlAll
import Derived.Test.YtfoeghabnbjbgaaDoorLexSame
import Derived.Test.YtfoeghabnbjbgaaDoorLexOwnP
import Derived.Test.YtfoeghabnbjbgaaDoorCards
import Derived.Test.YtfoeghabnbjbgaaDoorTie
import Derived.Deep.DeepWitnessRowRef
import Derived.Deep.DeepHandedRow
import Derived.SevenTiedAt
namespace Go.Proofs.YtfoeghabnbjbgaaDoor.lawOwn
open Go.ChangeShapes Go.WideShapes Go.ChangeAt Go.RowKit
open Go.ChangeMaps (open_string shut_string)
open FeatPlain

set_option maxRecDepth 100000 in
set_option maxHeartbeats 6400000 in
theorem walk (A : Option Addr) (n c : Nat) (ls : List AlphPlain.Lt) (B : Option Addr) (m d : Nat) (xs : List Lx) (i : Int) (w : World) (hM : Mx w) (hT : Al.Tabs w) (ha : Al.Ll w A n c ls) (_ : c * 8 ≤ reachBytes) (hb : Ls w B m d xs) (hok : Lok xs) (_ : (Lit.int .i64 i).wf = true) :
    Calls Tryd.prog 3 #[.slice A n c, .slice B m d, .int .i64 i] w (BoolPost w true) := by
  have hfew := fun W (k : Aft w W) => few_any B m d xs W (hb.aft k)
  have hmd := hb.le
  have hdm := hb.cmax
  cases hf : fewB xs
  · rw [hf] at hfew
    have HF := Lib.hid hfew
    clear hfew hf
    go_enter Tryd.func3, Tryd.ntmps3
    go_wp2_with fail
    refine (awakeL_any w hM).mono ?_
    rintro e wA ⟨rfl, AA⟩
    go_wp2_with fail
    refine (HF.out _ AA).mono ?_
    rintro e wF ⟨rfl, AF⟩
    have AO := AA.trans AF
    clear HF
    go_wp2_with fail
    refine (awakeL_any _ (hM.aft AO)).mono ?_
    rintro e wO ⟨rfl, AP⟩
    go_wp2
    go_ret
    exact ⟨rfl, AO.trans AP⟩
  · rw [hf] at hfew
    have HF := Lib.hid hfew
    have hn3 : m ≤ 300 := by
      simp only [fewB, Bool.and_eq_true, decide_eq_true_eq] at hf
      rw [← hb.len]; exact hf.2
    have hs2 := few_stems hf
    have HF20 := Lib.hid (few_fts hf hb.lw)
    clear hfew hf
    by_cases h0 : i < 0
    · go_enter Tryd.func3, Tryd.ntmps3
      go_wp2_with fail
      refine (awakeL_any w hM).mono ?_
      rintro e wA ⟨rfl, AA⟩
      go_wp2_with fail
      refine (HF.out _ AA).mono ?_
      rintro e wF ⟨rfl, AF⟩
      have AO := AA.trans AF
      clear HF
      go_wp2_with fail
      refine (awakeL_any _ (hM.aft AO)).mono ?_
      rintro e wO ⟨rfl, AP⟩
      go_wp2
      go_ret
      exact ⟨rfl, AO.trans AP⟩
    · by_cases h1 : (m : Int) ≤ i
      · go_enter Tryd.func3, Tryd.ntmps3
        go_wp2_with fail
        refine (awakeL_any w hM).mono ?_
        rintro e wA ⟨rfl, AA⟩
        go_wp2_with fail
        refine (HF.out _ AA).mono ?_
        rintro e wF ⟨rfl, AF⟩
        have AO := AA.trans AF
        clear HF
        go_wp2_with fail
        refine (awakeL_any _ (hM.aft AO)).mono ?_
        rintro e wO ⟨rfl, AP⟩
        go_wp2
        go_ret
        exact ⟨rfl, AO.trans AP⟩
      · obtain ⟨k, rfl⟩ : ∃ k : Nat, i = (k : Int) := ⟨i.toNat, by omega⟩
        have hlt : k < m := by omega
        have HV0 := fun W (q : Aft w W) => ValidL_any A n c ls B m d xs W (Al.tabs_aft hT q) (ha.aft q) (hb.aft q) hok.sz hs2
        cases hv : validLx ls xs
        · rw [hv] at HV0
          have HV := Lib.hid HV0
          clear hv HV0
          go_enter Tryd.func3, Tryd.ntmps3
          go_wp2_with fail
          refine (awakeL_any w hM).mono ?_
          rintro e wA ⟨rfl, AA⟩
          go_wp2_with fail
          refine (HF.out _ AA).mono ?_
          rintro e wF ⟨rfl, AF⟩
          have A0 := AA.trans AF
          have HV1 := Lib.hid (HV.out _ A0)
          clear HF HV
          go_wp2_with fail
          refine HV1.out.mono ?_
          rintro e wV ⟨rfl, AV⟩
          have AO := A0.trans AV
          clear HV1
          go_wp2_with fail
          refine (awakeL_any _ (hM.aft AO)).mono ?_
          rintro e wO ⟨rfl, AP⟩
          go_wp2
          go_ret
          exact ⟨rfl, AO.trans AP⟩
        · rw [hv] at HV0
          have HV := Lib.hid HV0
          have HID := Lib.hid (validLx_ids hv)
          clear hv HV0
          obtain ⟨b, off, x, rfl, hx, h5, hlw⟩ := hb.at_ hlt
          have HX := Lib.hid hx
          have H5 := Lib.hid h5
          have HLW := Lib.hid hlw
          clear hx h5 hlw
          go_enter Tryd.func3, Tryd.ntmps3
          go_wp2_with fail
          refine (awakeL_any w hM).mono ?_
          rintro e wA ⟨rfl, AA⟩
          go_wp2_with fail
          refine (HF.out _ AA).mono ?_
          rintro e wF ⟨rfl, AF⟩
          have A0 := AA.trans AF
          have HV1 := Lib.hid (HV.out _ A0)
          clear HF HV
          go_wp2_with fail
          refine HV1.out.mono ?_
          rintro e wV ⟨rfl, AV⟩
          have A1 := A0.trans AV
          clear HV1
          obtain ⟨c0, c1, c2, c3, c4⟩ := H5.out.aft A1
          have HC := Lib.hid (Category_any (some ⟨b, off, none⟩) m d xs x.cat wV.drew (hb.aft A1.drew) hok.fn (by omega))
          go_wp2
          refine wp_region_held_drew (S := fun w' => w'.cell? ⟨b, off + k * 5 + 1, none⟩ = some (.string x.cat) ∧ w'.cell? ⟨b, off + k * 5 + 2, none⟩ = some (.string x.stem)) (by kernel_rfl) (⟨c1, c2⟩) (fun hHeld => ?_)
          refine take_on (i := 0) (v := ?v1) rfl (by kernel_rfl) (by kernel_rfl) (by kernel_rfl) (fun _ _ _ h => h) (by rfl) (by assumption) ?y1 ?_
          case y1 => (intro w hSw; (try dsimp only at hSw); go_simp; (try with_reducible rfl))
          try simp only [Act.put, List.setIfInBounds_toArray, List.set_cons_zero, List.set_cons_succ]
          refine take_on (i := 1) (v := ?v2) rfl (by kernel_rfl) (by kernel_rfl) (by kernel_rfl) (fun _ _ _ h => h) (by rfl) (by assumption) ?y2 ?_
          case y2 => (intro w hSw; (try dsimp only at hSw); go_simp; (try with_reducible rfl))
          try simp only [Act.put, List.setIfInBounds_toArray, List.set_cons_zero, List.set_cons_succ]
          refine take_on (i := 2) (v := ?v3) rfl (by kernel_rfl) (by kernel_rfl) (by kernel_rfl) (fun _ _ _ h => h) (by rfl) (by assumption) ?y3 ?_
          case y3 => (intro w hSw; (try dsimp only at hSw); go_simp; (try with_reducible rfl))
          try simp only [Act.put, List.setIfInBounds_toArray, List.set_cons_zero, List.set_cons_succ]
          refine take_on (i := 3) (v := ?v4) rfl (by kernel_rfl) (by kernel_rfl) (by kernel_rfl) (fun _ _ _ h => h) (by rfl) (by assumption) ?y4 ?_
          case y4 => (intro w hSw; (try dsimp only at hSw); go_simp; (try with_reducible rfl))
          try simp only [Act.put, List.setIfInBounds_toArray, List.set_cons_zero, List.set_cons_succ]
          refine take_on (i := 4) (v := ?v5) rfl (by kernel_rfl) (by kernel_rfl) (by kernel_rfl) (fun _ _ _ h => h) (by rfl) (by assumption) ?y5 ?_
          case y5 => (intro w hSw; (try dsimp only at hSw); go_simp; (try with_reducible rfl))
          try simp only [Act.put, List.setIfInBounds_toArray, List.set_cons_zero, List.set_cons_succ]
          refine take_on (i := 5) (v := ?v6) rfl (by kernel_rfl) (by kernel_rfl) (by kernel_rfl) (fun _ _ _ h => h) (by rfl) (by assumption) ?y6 ?_
          case y6 => (intro w hSw; (try dsimp only at hSw); go_simp; (try with_reducible rfl))
          try simp only [Act.put, List.setIfInBounds_toArray, List.set_cons_zero, List.set_cons_succ]
          refine take_on (i := 7) (v := ?v7) rfl (by kernel_rfl) (by kernel_rfl) (by kernel_rfl) (fun _ _ _ h => h) (by rfl) (by assumption) ?y7 ?_
          case y7 => (intro w hSw; (try dsimp only at hSw); go_simp; (try with_reducible rfl))
          try simp only [Act.put, List.setIfInBounds_toArray, List.set_cons_zero, List.set_cons_succ]
          refine take_on (i := 8) (v := ?v8) rfl (by kernel_rfl) (by kernel_rfl) (by kernel_rfl) (fun _ _ _ h => h) (by rfl) (by assumption) ?y8 ?_
          case y8 => (intro w hSw; (try dsimp only at hSw); go_simp; (try with_reducible rfl))
          try simp only [Act.put, List.setIfInBounds_toArray, List.set_cons_zero, List.set_cons_succ]
          refine take_on (i := 9) (v := ?v9) rfl (by kernel_rfl) (by kernel_rfl) (by kernel_rfl) (fun _ _ _ h => h) (by rfl) (by assumption) ?y9 ?_
          case y9 => (intro w hSw; (try dsimp only at hSw); go_simp; (try with_reducible rfl))
          try simp only [Act.put, List.setIfInBounds_toArray, List.set_cons_zero, List.set_cons_succ]
          refine take_on (i := 10) (v := ?v10) rfl (by kernel_rfl) (by kernel_rfl) (by kernel_rfl) (fun _ _ _ h => h) (by rfl) (by assumption) ?y10 ?_
          case y10 => (intro w hSw; (try dsimp only at hSw); go_simp; (try with_reducible rfl))
          try simp only [Act.put, List.setIfInBounds_toArray, List.set_cons_zero, List.set_cons_succ]
          refine take_on (i := 11) (v := ?v11) rfl (by kernel_rfl) (by kernel_rfl) (by kernel_rfl) (fun _ _ _ h => h) (by rfl) (by assumption) ?y11 ?_
          case y11 => (intro w hSw; (try dsimp only at hSw); go_simp; (try with_reducible rfl))
          try simp only [Act.put, List.setIfInBounds_toArray, List.set_cons_zero, List.set_cons_succ]
          refine take_on (i := 12) (v := ?v12) rfl (by kernel_rfl) (by kernel_rfl) (by kernel_rfl) (fun _ _ _ h => h) (by rfl) (by assumption) ?y12 ?_
          case y12 => (intro w hSw; (try dsimp only at hSw); go_simp; (try with_reducible rfl))
          try simp only [Act.put, List.setIfInBounds_toArray, List.set_cons_zero, List.set_cons_succ]
          refine one_ready (i := 6) rfl (by kernel_rfl) (by rfl) (fun K hK => ?_)
          go_simp
          refine HC.out.mono ?_
          rintro e w2 ⟨⟨B1, n1, e1, ys1, rfl, y1, l1, z1⟩, A2⟩
          have Y1 := Lib.hid y1
          have Z1 := Lib.hid z1
          have L1 := Lib.hid l1
          clear y1 z1 l1
          have hKK : w2.cell? ⟨b, off + k * 5 + 1, none⟩ = some (.string x.cat) ∧ w2.cell? ⟨b, off + k * 5 + 2, none⟩ = some (.string x.stem) := ⟨A2.cell hHeld.1, A2.cell hHeld.2⟩
          refine hK.out _ _ (by assumption) (fun hHeld => ?_)
          clear hK K
          try simp only [Act.put, List.setIfInBounds_toArray, List.set_cons_zero, List.set_cons_succ]
          refine one_ready (i := 13) rfl (by kernel_rfl) (by rfl) (fun K hK => ?_)
          go_simp
          refine (Stem_any (some ⟨b, off, none⟩) m d xs x.stem w2 (hb.aft (A1.drew.trans A2)) hok.fn (by omega)).mono ?_
          rintro e w3 ⟨⟨B2, n2, e2, ys2, rfl, y2, l2, z2⟩, A3⟩
          have Y2 := Lib.hid y2
          have Z2 := Lib.hid z2
          have L2 := Lib.hid l2
          clear y2 z2 l2
          have hKK : w3.cell? ⟨b, off + k * 5 + 1, none⟩ = some (.string x.cat) ∧ w3.cell? ⟨b, off + k * 5 + 2, none⟩ = some (.string x.stem) := ⟨A3.cell hHeld.1, A3.cell hHeld.2⟩
          refine hK.out _ _ (by assumption) (fun hHeld => ?_)
          clear hK K
          try simp only [Act.put, List.setIfInBounds_toArray, List.set_cons_zero, List.set_cons_succ]
          refine take_on (i := 14) (v := ?v15) rfl (by kernel_rfl) (by kernel_rfl) (by kernel_rfl) (fun _ _ _ h => h) (by rfl) (by assumption) ?y15 ?_
          case y15 => (intro w hSw; (try dsimp only at hSw); go_simp; (try with_reducible rfl))
          try simp only [Act.put, List.setIfInBounds_toArray, List.set_cons_zero, List.set_cons_succ]
          refine take_on (i := 15) (v := ?v16) rfl (by kernel_rfl) (by kernel_rfl) (by kernel_rfl) (fun _ _ _ h => h) (by rfl) (by assumption) ?y16 ?_
          case y16 => (intro w hSw; (try dsimp only at hSw); go_simp; (try with_reducible rfl))
          try simp only [Act.put, List.setIfInBounds_toArray, List.set_cons_zero, List.set_cons_succ]
          refine wpAnyH_done (by kernel_rfl) ?_ _
          have C1 : Aft wV w3 := ((Aft.refl wV).drew.trans A2).trans A3
          have A03 := A1.trans C1
          clear c0 c1 c2 c3 c4
          obtain ⟨c0, c1, c2, c3, c4⟩ := H5.out.aft A03
          have hfz1 := Lib.hid (found_in (k := k) (x := x) (p := fun y => decide (y.cat = x.cat)) HID.out HX.out (by simp) Z1.out)
          have hfz2 := Lib.hid (found_in (k := k) (x := x) (p := fun y => decide (y.stem = x.stem)) HID.out HX.out (by simp) Z2.out)
          have H7 := Lib.hid (Find_any B1 n1 e1 ys1 x.id w3 (Y1.out.aft A3) (fn_small (filter_all HF20.out) Y1.out.lw Z1.out))
          rw [hfz1.out] at H7
          go_wp2_with fail
          refine H7.out.mono ?_
          rintro e w4 ⟨A4, y, rfl, hy, hys⟩
          have B4 : Aft w3 (w4.alloc (.cells #[.string y.id, .string y.cat, .string y.stem, .string y.par, .slice y.fa y.fn y.fc] 30)) := A4.alloc _
          have f1 := Lib.hid (five_new w4 y 30)
          have l1 := Lib.hid (hy.aft ((Aft.refl w4).alloc (.cells #[.string y.id, .string y.cat, .string y.stem, .string y.par, .slice y.fa y.fn y.fc] 30)))
          have HYS := Lib.hid (show y.say = x.say from hys)
          clear H7 hy hys c0 c1 c2 c3 c4
          have A04 := A03.trans B4
          obtain ⟨c0, c1, c2, c3, c4⟩ := H5.out.aft A04
          have H8 := Lib.hid (Find_any B2 n2 e2 ys2 x.id _ (Y2.out.aft B4) (fn_small (filter_all HF20.out) Y2.out.lw Z2.out))
          rw [hfz2.out] at H8
          go_wp2_with fail
          refine H8.out.mono ?_
          rintro e w5 ⟨A5, z, rfl, hz, hzs⟩
          have B5 : Aft (w4.alloc (.cells #[.string y.id, .string y.cat, .string y.stem, .string y.par, .slice y.fa y.fn y.fc] 30)) (w5.alloc (.cells #[.string z.id, .string z.cat, .string z.stem, .string z.par, .slice z.fa z.fn z.fc] 30)) := A5.alloc _
          have f2 := Lib.hid (five_new w5 z 30)
          have l2 := Lib.hid (hz.aft ((Aft.refl w5).alloc (.cells #[.string z.id, .string z.cat, .string z.stem, .string z.par, .slice z.fa z.fn z.fc] 30)))
          have HZS := Lib.hid (show z.say = x.say from hzs)
          clear H8 hz hzs c0 c1 c2 c3 c4
          have A05 := A04.trans B5
          obtain ⟨c0, c1, c2, c3, c4⟩ := H5.out.aft A05
          obtain ⟨p0, p1, p2, p3, p4⟩ := f1.out.aft B5
          obtain ⟨q0, q1, q2, q3, q4⟩ := f2.out
          simp only [Nat.zero_add] at p1 p2 p3 p4 q1 q2 q3 q4
          go_wp2
          refine wp_region_held_drew (S := fun w' => w'.cell? ⟨b, off + k * 5, none⟩ = some (.string x.id) ∧ w'.cell? ⟨b, off + k * 5 + 1, none⟩ = some (.string x.cat) ∧ w'.cell? ⟨b, off + k * 5 + 2, none⟩ = some (.string x.stem) ∧ w'.cell? ⟨b, off + k * 5 + 3, none⟩ = some (.string x.par) ∧ w'.cell? ⟨b, off + k * 5 + 4, none⟩ = some (.slice x.fa x.fn x.fc) ∧ w'.cell? ⟨w4.heap.size, 0, none⟩ = some (.string y.id) ∧ w'.cell? ⟨w4.heap.size, 1, none⟩ = some (.string y.cat) ∧ w'.cell? ⟨w4.heap.size, 2, none⟩ = some (.string y.stem) ∧ w'.cell? ⟨w4.heap.size, 3, none⟩ = some (.string y.par) ∧ w'.cell? ⟨w4.heap.size, 4, none⟩ = some (.slice y.fa y.fn y.fc) ∧ w'.cell? ⟨w5.heap.size, 0, none⟩ = some (.string z.id) ∧ w'.cell? ⟨w5.heap.size, 1, none⟩ = some (.string z.cat) ∧ w'.cell? ⟨w5.heap.size, 2, none⟩ = some (.string z.stem) ∧ w'.cell? ⟨w5.heap.size, 3, none⟩ = some (.string z.par) ∧ w'.cell? ⟨w5.heap.size, 4, none⟩ = some (.slice z.fa z.fn z.fc)) (by kernel_rfl) (⟨c0, c1, c2, c3, c4, p0, p1, p2, p3, p4, q0, q1, q2, q3, q4⟩) (fun hHeld => ?_)
          refine take_on (i := 0) (v := ?v17) rfl (by kernel_rfl) (by kernel_rfl) (by kernel_rfl) (fun _ _ _ h => h) (by rfl) (by assumption) ?y17 ?_
          case y17 => (intro w hSw; (try dsimp only at hSw); go_simp; (try with_reducible rfl))
          try simp only [Act.put, List.setIfInBounds_toArray, List.set_cons_zero, List.set_cons_succ]
          refine take_on (i := 1) (v := ?v18) rfl (by kernel_rfl) (by kernel_rfl) (by kernel_rfl) (fun _ _ _ h => h) (by rfl) (by assumption) ?y18 ?_
          case y18 => (intro w hSw; (try dsimp only at hSw); go_simp; (try with_reducible rfl))
          try simp only [Act.put, List.setIfInBounds_toArray, List.set_cons_zero, List.set_cons_succ]
          refine take_on (i := 2) (v := ?v19) rfl (by kernel_rfl) (by kernel_rfl) (by kernel_rfl) (fun _ _ _ h => h) (by rfl) (by assumption) ?y19 ?_
          case y19 => (intro w hSw; (try dsimp only at hSw); go_simp; (try with_reducible rfl))
          try simp only [Act.put, List.setIfInBounds_toArray, List.set_cons_zero, List.set_cons_succ]
          refine take_on (i := 3) (v := ?v20) rfl (by kernel_rfl) (by kernel_rfl) (by kernel_rfl) (fun _ _ _ h => h) (by rfl) (by assumption) ?y20 ?_
          case y20 => (intro w hSw; (try dsimp only at hSw); go_simp; (try with_reducible rfl))
          try simp only [Act.put, List.setIfInBounds_toArray, List.set_cons_zero, List.set_cons_succ]
          refine take_on (i := 4) (v := ?v21) rfl (by kernel_rfl) (by kernel_rfl) (by kernel_rfl) (fun _ _ _ h => h) (by rfl) (by assumption) ?y21 ?_
          case y21 => (intro w hSw; (try dsimp only at hSw); go_simp; (try with_reducible rfl))
          try simp only [Act.put, List.setIfInBounds_toArray, List.set_cons_zero, List.set_cons_succ]
          refine take_on (i := 5) (v := ?v22) rfl (by kernel_rfl) (by kernel_rfl) (by kernel_rfl) (fun _ _ _ h => h) (by rfl) (by assumption) ?y22 ?_
          case y22 => (intro w hSw; (try dsimp only at hSw); go_simp; (try with_reducible rfl))
          try simp only [Act.put, List.setIfInBounds_toArray, List.set_cons_zero, List.set_cons_succ]
          refine take_on (i := 7) (v := ?v23) rfl (by kernel_rfl) (by kernel_rfl) (by kernel_rfl) (fun _ _ _ h => h) (by rfl) (by assumption) ?y23 ?_
          case y23 => (intro w hSw; (try dsimp only at hSw); go_simp; (try with_reducible rfl))
          try simp only [Act.put, List.setIfInBounds_toArray, List.set_cons_zero, List.set_cons_succ]
          refine one_ready (i := 6) rfl (by kernel_rfl) (by rfl) (fun K hK => ?_)
          go_simp
          have hIX := Index_any (some ⟨b, off, none⟩) m d xs x.id (w5.alloc (.cells #[.string z.id, .string z.cat, .string z.stem, .string z.par, .slice z.fa z.fn z.fc] 30)).drew (hb.aft A05.drew)
          rw [index_own HID.out HX.out] at hIX
          refine hIX.mono ?_
          rintro e w6 ⟨rfl, A6⟩
          have hKK : w6.cell? ⟨b, off + k * 5, none⟩ = some (.string x.id) ∧ w6.cell? ⟨b, off + k * 5 + 1, none⟩ = some (.string x.cat) ∧ w6.cell? ⟨b, off + k * 5 + 2, none⟩ = some (.string x.stem) ∧ w6.cell? ⟨b, off + k * 5 + 3, none⟩ = some (.string x.par) ∧ w6.cell? ⟨b, off + k * 5 + 4, none⟩ = some (.slice x.fa x.fn x.fc) ∧ w6.cell? ⟨w4.heap.size, 0, none⟩ = some (.string y.id) ∧ w6.cell? ⟨w4.heap.size, 1, none⟩ = some (.string y.cat) ∧ w6.cell? ⟨w4.heap.size, 2, none⟩ = some (.string y.stem) ∧ w6.cell? ⟨w4.heap.size, 3, none⟩ = some (.string y.par) ∧ w6.cell? ⟨w4.heap.size, 4, none⟩ = some (.slice y.fa y.fn y.fc) ∧ w6.cell? ⟨w5.heap.size, 0, none⟩ = some (.string z.id) ∧ w6.cell? ⟨w5.heap.size, 1, none⟩ = some (.string z.cat) ∧ w6.cell? ⟨w5.heap.size, 2, none⟩ = some (.string z.stem) ∧ w6.cell? ⟨w5.heap.size, 3, none⟩ = some (.string z.par) ∧ w6.cell? ⟨w5.heap.size, 4, none⟩ = some (.slice z.fa z.fn z.fc) := ⟨A6.cell hHeld.1, A6.cell hHeld.2.1, A6.cell hHeld.2.2.1, A6.cell hHeld.2.2.2.1, A6.cell hHeld.2.2.2.2.1, A6.cell hHeld.2.2.2.2.2.1, A6.cell hHeld.2.2.2.2.2.2.1, A6.cell hHeld.2.2.2.2.2.2.2.1, A6.cell hHeld.2.2.2.2.2.2.2.2.1, A6.cell hHeld.2.2.2.2.2.2.2.2.2.1, A6.cell hHeld.2.2.2.2.2.2.2.2.2.2.1, A6.cell hHeld.2.2.2.2.2.2.2.2.2.2.2.1, A6.cell hHeld.2.2.2.2.2.2.2.2.2.2.2.2.1, A6.cell hHeld.2.2.2.2.2.2.2.2.2.2.2.2.2.1, A6.cell hHeld.2.2.2.2.2.2.2.2.2.2.2.2.2.2⟩
          refine hK.out _ _ (by assumption) (fun hHeld => ?_)
          clear hK K
          try simp only [Act.put, List.setIfInBounds_toArray, List.set_cons_zero, List.set_cons_succ]
          refine take_on (i := 8) (v := ?v25) rfl (by kernel_rfl) (by kernel_rfl) (by kernel_rfl) (fun _ _ _ h => h) (by rfl) (by assumption) ?y25 ?_
          case y25 => (intro w hSw; (try dsimp only at hSw); go_simp; (try with_reducible rfl))
          try simp only [Act.put, List.setIfInBounds_toArray, List.set_cons_zero, List.set_cons_succ]
          refine take_on (i := 9) (v := ?v26) rfl (by kernel_rfl) (by kernel_rfl) (by kernel_rfl) (fun _ _ _ h => h) (by rfl) (by assumption) ?y26 ?_
          case y26 => (intro w hSw; (try dsimp only at hSw); go_simp; (try with_reducible rfl))
          try simp only [Act.put, List.setIfInBounds_toArray, List.set_cons_zero, List.set_cons_succ]
          refine take_on (i := 10) (v := ?v27) rfl (by kernel_rfl) (by kernel_rfl) (by kernel_rfl) (fun _ _ _ h => h) (by rfl) (by assumption) ?y27 ?_
          case y27 => (intro w hSw; (try dsimp only at hSw); go_simp; (try with_reducible rfl))
          try simp only [Act.put, List.setIfInBounds_toArray, List.set_cons_zero, List.set_cons_succ]
          refine take_on (i := 11) (v := ?v28) rfl (by kernel_rfl) (by kernel_rfl) (by kernel_rfl) (fun _ _ _ h => h) (by rfl) (by assumption) ?y28 ?_
          case y28 => (intro w hSw; (try dsimp only at hSw); go_simp; (try with_reducible rfl))
          try simp only [Act.put, List.setIfInBounds_toArray, List.set_cons_zero, List.set_cons_succ]
          refine take_on (i := 12) (v := ?v29) rfl (by kernel_rfl) (by kernel_rfl) (by kernel_rfl) (fun _ _ _ h => h) (by rfl) (by assumption) ?y29 ?_
          case y29 => (intro w hSw; (try dsimp only at hSw); go_simp; (try with_reducible rfl))
          try simp only [Act.put, List.setIfInBounds_toArray, List.set_cons_zero, List.set_cons_succ]
          refine take_on (i := 13) (v := ?v30) rfl (by kernel_rfl) (by kernel_rfl) (by kernel_rfl) (fun _ _ _ h => h) (by rfl) (by assumption) ?y30 ?_
          case y30 => (intro w hSw; (try dsimp only at hSw); go_simp; (try with_reducible rfl))
          try simp only [Act.put, List.setIfInBounds_toArray, List.set_cons_zero, List.set_cons_succ]
          refine take_on (i := 14) (v := ?v31) rfl (by kernel_rfl) (by kernel_rfl) (by kernel_rfl) (fun _ _ _ h => h) (by rfl) (by assumption) ?y31 ?_
          case y31 => (intro w hSw; (try dsimp only at hSw); go_simp; (try with_reducible rfl))
          try simp only [Act.put, List.setIfInBounds_toArray, List.set_cons_zero, List.set_cons_succ]
          refine take_on (i := 15) (v := ?v32) rfl (by kernel_rfl) (by kernel_rfl) (by kernel_rfl) (fun _ _ _ h => h) (by rfl) (by assumption) ?y32 ?_
          case y32 => (intro w hSw; (try dsimp only at hSw); go_simp; (try with_reducible rfl))
          try simp only [Act.put, List.setIfInBounds_toArray, List.set_cons_zero, List.set_cons_succ]
          refine take_on (i := 16) (v := ?v33) rfl (by kernel_rfl) (by kernel_rfl) (by kernel_rfl) (fun _ _ _ h => h) (by rfl) (by assumption) ?y33 ?_
          case y33 => (intro w hSw; (try dsimp only at hSw); go_simp; (try with_reducible rfl))
          try simp only [Act.put, List.setIfInBounds_toArray, List.set_cons_zero, List.set_cons_succ]
          refine take_on (i := 17) (v := ?v34) rfl (by kernel_rfl) (by kernel_rfl) (by kernel_rfl) (fun _ _ _ h => h) (by rfl) (by assumption) ?y34 ?_
          case y34 => (intro w hSw; (try dsimp only at hSw); go_simp; (try with_reducible rfl))
          try simp only [Act.put, List.setIfInBounds_toArray, List.set_cons_zero, List.set_cons_succ]
          refine take_on (i := 18) (v := ?v35) rfl (by kernel_rfl) (by kernel_rfl) (by kernel_rfl) (fun _ _ _ h => h) (by rfl) (by assumption) ?y35 ?_
          case y35 => (intro w hSw; (try dsimp only at hSw); go_simp; (try with_reducible rfl))
          try simp only [Act.put, List.setIfInBounds_toArray, List.set_cons_zero, List.set_cons_succ]
          refine take_on (i := 19) (v := ?v36) rfl (by kernel_rfl) (by kernel_rfl) (by kernel_rfl) (fun _ _ _ h => h) (by rfl) (by assumption) ?y36 ?_
          case y36 => (intro w hSw; (try dsimp only at hSw); go_simp; (try with_reducible rfl))
          try simp only [Act.put, List.setIfInBounds_toArray, List.set_cons_zero, List.set_cons_succ]
          refine take_on (i := 20) (v := ?v37) rfl (by kernel_rfl) (by kernel_rfl) (by kernel_rfl) (fun _ _ _ h => h) (by rfl) (by assumption) ?y37 ?_
          case y37 => (intro w hSw; (try dsimp only at hSw); go_simp; (try with_reducible rfl))
          try simp only [Act.put, List.setIfInBounds_toArray, List.set_cons_zero, List.set_cons_succ]
          refine one_ready (i := 21) rfl (by kernel_rfl) (by rfl) (fun K hK => ?_)
          go_simp
          have hSM := sameL_any y x w6 (l1.out.aft (B5.drew.trans A6)) (HLW.out.aft (A05.drew.trans A6))
          rw [decide_eq_true HYS.out] at hSM
          refine hSM.mono ?_
          rintro e w7 ⟨rfl, A7⟩
          have hKK : w7.cell? ⟨b, off + k * 5, none⟩ = some (.string x.id) ∧ w7.cell? ⟨b, off + k * 5 + 1, none⟩ = some (.string x.cat) ∧ w7.cell? ⟨b, off + k * 5 + 2, none⟩ = some (.string x.stem) ∧ w7.cell? ⟨b, off + k * 5 + 3, none⟩ = some (.string x.par) ∧ w7.cell? ⟨b, off + k * 5 + 4, none⟩ = some (.slice x.fa x.fn x.fc) ∧ w7.cell? ⟨w4.heap.size, 0, none⟩ = some (.string y.id) ∧ w7.cell? ⟨w4.heap.size, 1, none⟩ = some (.string y.cat) ∧ w7.cell? ⟨w4.heap.size, 2, none⟩ = some (.string y.stem) ∧ w7.cell? ⟨w4.heap.size, 3, none⟩ = some (.string y.par) ∧ w7.cell? ⟨w4.heap.size, 4, none⟩ = some (.slice y.fa y.fn y.fc) ∧ w7.cell? ⟨w5.heap.size, 0, none⟩ = some (.string z.id) ∧ w7.cell? ⟨w5.heap.size, 1, none⟩ = some (.string z.cat) ∧ w7.cell? ⟨w5.heap.size, 2, none⟩ = some (.string z.stem) ∧ w7.cell? ⟨w5.heap.size, 3, none⟩ = some (.string z.par) ∧ w7.cell? ⟨w5.heap.size, 4, none⟩ = some (.slice z.fa z.fn z.fc) := ⟨A7.cell hHeld.1, A7.cell hHeld.2.1, A7.cell hHeld.2.2.1, A7.cell hHeld.2.2.2.1, A7.cell hHeld.2.2.2.2.1, A7.cell hHeld.2.2.2.2.2.1, A7.cell hHeld.2.2.2.2.2.2.1, A7.cell hHeld.2.2.2.2.2.2.2.1, A7.cell hHeld.2.2.2.2.2.2.2.2.1, A7.cell hHeld.2.2.2.2.2.2.2.2.2.1, A7.cell hHeld.2.2.2.2.2.2.2.2.2.2.1, A7.cell hHeld.2.2.2.2.2.2.2.2.2.2.2.1, A7.cell hHeld.2.2.2.2.2.2.2.2.2.2.2.2.1, A7.cell hHeld.2.2.2.2.2.2.2.2.2.2.2.2.2.1, A7.cell hHeld.2.2.2.2.2.2.2.2.2.2.2.2.2.2⟩
          refine hK.out _ _ (by assumption) (fun hHeld => ?_)
          clear hK K
          try simp only [Act.put, List.setIfInBounds_toArray, List.set_cons_zero, List.set_cons_succ]
          refine take_on (i := 22) (v := ?v39) rfl (by kernel_rfl) (by kernel_rfl) (by kernel_rfl) (fun _ _ _ h => h) (by rfl) (by assumption) ?y39 ?_
          case y39 => (intro w hSw; (try dsimp only at hSw); go_simp; (try with_reducible rfl))
          try simp only [Act.put, List.setIfInBounds_toArray, List.set_cons_zero, List.set_cons_succ]
          refine take_on (i := 23) (v := ?v40) rfl (by kernel_rfl) (by kernel_rfl) (by kernel_rfl) (fun _ _ _ h => h) (by rfl) (by assumption) ?y40 ?_
          case y40 => (intro w hSw; (try dsimp only at hSw); go_simp; (try with_reducible rfl))
          try simp only [Act.put, List.setIfInBounds_toArray, List.set_cons_zero, List.set_cons_succ]
          refine take_on (i := 24) (v := ?v41) rfl (by kernel_rfl) (by kernel_rfl) (by kernel_rfl) (fun _ _ _ h => h) (by rfl) (by assumption) ?y41 ?_
          case y41 => (intro w hSw; (try dsimp only at hSw); go_simp; (try with_reducible rfl))
          try simp only [Act.put, List.setIfInBounds_toArray, List.set_cons_zero, List.set_cons_succ]
          refine take_on (i := 25) (v := ?v42) rfl (by kernel_rfl) (by kernel_rfl) (by kernel_rfl) (fun _ _ _ h => h) (by rfl) (by assumption) ?y42 ?_
          case y42 => (intro w hSw; (try dsimp only at hSw); go_simp; (try with_reducible rfl))
          try simp only [Act.put, List.setIfInBounds_toArray, List.set_cons_zero, List.set_cons_succ]
          refine take_on (i := 26) (v := ?v43) rfl (by kernel_rfl) (by kernel_rfl) (by kernel_rfl) (fun _ _ _ h => h) (by rfl) (by assumption) ?y43 ?_
          case y43 => (intro w hSw; (try dsimp only at hSw); go_simp; (try with_reducible rfl))
          try simp only [Act.put, List.setIfInBounds_toArray, List.set_cons_zero, List.set_cons_succ]
          refine take_on (i := 27) (v := ?v44) rfl (by kernel_rfl) (by kernel_rfl) (by kernel_rfl) (fun _ _ _ h => h) (by rfl) (by assumption) ?y44 ?_
          case y44 => (intro w hSw; (try dsimp only at hSw); go_simp; (try with_reducible rfl))
          try simp only [Act.put, List.setIfInBounds_toArray, List.set_cons_zero, List.set_cons_succ]
          refine take_on (i := 28) (v := ?v45) rfl (by kernel_rfl) (by kernel_rfl) (by kernel_rfl) (fun _ _ _ h => h) (by rfl) (by assumption) ?y45 ?_
          case y45 => (intro w hSw; (try dsimp only at hSw); go_simp; (try with_reducible rfl))
          try simp only [Act.put, List.setIfInBounds_toArray, List.set_cons_zero, List.set_cons_succ]
          refine one_ready (i := 29) rfl (by kernel_rfl) (by rfl) (fun K hK => ?_)
          go_simp
          have hSM := sameL_any z x w7 (l2.out.aft (((Aft.refl _).drew.trans A6).trans A7)) (HLW.out.aft ((A05.drew.trans A6).trans A7))
          rw [decide_eq_true HZS.out] at hSM
          refine hSM.mono ?_
          rintro e w8 ⟨rfl, A8⟩
          have hKK : w8.cell? ⟨b, off + k * 5, none⟩ = some (.string x.id) ∧ w8.cell? ⟨b, off + k * 5 + 1, none⟩ = some (.string x.cat) ∧ w8.cell? ⟨b, off + k * 5 + 2, none⟩ = some (.string x.stem) ∧ w8.cell? ⟨b, off + k * 5 + 3, none⟩ = some (.string x.par) ∧ w8.cell? ⟨b, off + k * 5 + 4, none⟩ = some (.slice x.fa x.fn x.fc) ∧ w8.cell? ⟨w4.heap.size, 0, none⟩ = some (.string y.id) ∧ w8.cell? ⟨w4.heap.size, 1, none⟩ = some (.string y.cat) ∧ w8.cell? ⟨w4.heap.size, 2, none⟩ = some (.string y.stem) ∧ w8.cell? ⟨w4.heap.size, 3, none⟩ = some (.string y.par) ∧ w8.cell? ⟨w4.heap.size, 4, none⟩ = some (.slice y.fa y.fn y.fc) ∧ w8.cell? ⟨w5.heap.size, 0, none⟩ = some (.string z.id) ∧ w8.cell? ⟨w5.heap.size, 1, none⟩ = some (.string z.cat) ∧ w8.cell? ⟨w5.heap.size, 2, none⟩ = some (.string z.stem) ∧ w8.cell? ⟨w5.heap.size, 3, none⟩ = some (.string z.par) ∧ w8.cell? ⟨w5.heap.size, 4, none⟩ = some (.slice z.fa z.fn z.fc) := ⟨A8.cell hHeld.1, A8.cell hHeld.2.1, A8.cell hHeld.2.2.1, A8.cell hHeld.2.2.2.1, A8.cell hHeld.2.2.2.2.1, A8.cell hHeld.2.2.2.2.2.1, A8.cell hHeld.2.2.2.2.2.2.1, A8.cell hHeld.2.2.2.2.2.2.2.1, A8.cell hHeld.2.2.2.2.2.2.2.2.1, A8.cell hHeld.2.2.2.2.2.2.2.2.2.1, A8.cell hHeld.2.2.2.2.2.2.2.2.2.2.1, A8.cell hHeld.2.2.2.2.2.2.2.2.2.2.2.1, A8.cell hHeld.2.2.2.2.2.2.2.2.2.2.2.2.1, A8.cell hHeld.2.2.2.2.2.2.2.2.2.2.2.2.2.1, A8.cell hHeld.2.2.2.2.2.2.2.2.2.2.2.2.2.2⟩
          refine hK.out _ _ (by assumption) (fun hHeld => ?_)
          clear hK K
          try simp only [Act.put, List.setIfInBounds_toArray, List.set_cons_zero, List.set_cons_succ]
          refine take_on (i := 30) (v := ?v47) rfl (by kernel_rfl) (by kernel_rfl) (by kernel_rfl) (fun _ _ _ h => h) (by rfl) (by assumption) ?y47 ?_
          case y47 => (intro w hSw; (try dsimp only at hSw); go_simp; (try with_reducible rfl))
          try simp only [Act.put, List.setIfInBounds_toArray, List.set_cons_zero, List.set_cons_succ]
          refine take_on (i := 31) (v := ?v48) rfl (by kernel_rfl) (by kernel_rfl) (by kernel_rfl) (fun _ _ _ h => h) (by rfl) (by assumption) ?y48 ?_
          case y48 => (intro w hSw; (try dsimp only at hSw); go_simp; (try with_reducible rfl))
          try simp only [Act.put, List.setIfInBounds_toArray, List.set_cons_zero, List.set_cons_succ]
          refine wpAnyH_done (by kernel_rfl) ?_ _
          go_wp2
          go_ret
          exact ⟨rfl, (((A05.drew.trans A6).trans A7).trans A8)⟩

theorem own : ownKnob Tryd.prog.godebug = none := by kernel_rfl
theorem laidOut : laidOutB Tryd.prog = true := by kernel_rfl
theorem bytesA : Tryd.prog.bytesOf 72 = 8 := by kernel_rfl

set_option maxRecDepth 100000 in
theorem contract (H : Type) (enc : TypeId × Value → H) (W : World) (base : Nat) (args : Array Value) (ds gs : List (DataW H)) (before : List MemPlace)
    (hval : ∀ (j : Nat) t v, Tryd.f3.params[j]? = some t → args[j]? = some v → Value.okWide Tryd.prog W .any base t v)
    (hW : DataW.Whole enc Tryd.prog Tryd.f3.params.toList Rows.lexiconOwnSpec.vars false W args.toList ds gs before) (hsz0 : (DataW.weightsEach Tryd.prog (Tryd.f3.params.toList ++ Rows.lexiconOwnSpec.plain.varTypes Tryd.prog) (ds ++ gs)).all (· ≤ reachBytes) = true) (hSh : W.ShapedOpen Tryd.prog) (hL : laidMetH Tryd.prog Al.listed W) :
    Calls Tryd.prog 3 args W fun e W' => ∃ v, e = .returned v ∧ Rows.lexiconOwnSpec.post enc Tryd.prog Tryd.f3 false true false false W args v W' := by
  have hW' := hW
  obtain ⟨p, q, hA0, hV, rfl, hfz, hnd⟩ := hW
  have hA : DataW.TrodAll enc Tryd.prog W 0 (fun _ => true) true Tryd.f3.params.toList args.toList ds p := hA0
  have hsz := hsz0
  rw [Tryd.params3] at hA hval hsz
  obtain ⟨v0, vs0, d0, ds0, p0, q0, hargs, rfl, rfl, h0, r0⟩ := trodAll_cons hA
  obtain ⟨v1, vs1, d1, ds1, p1, q1, rfl, rfl, rfl, h1, r1⟩ := trodAll_cons r0
  obtain ⟨v2, vs2, d2, ds2, p2, q2, rfl, rfl, rfl, h2, r2⟩ := trodAll_cons r1
  obtain ⟨rfl, rfl, rfl⟩ := trodAll_nil r2
  obtain rfl : args = #[v0, v1, v2] := by cases args; simp_all
  obtain ⟨rfl, rfl⟩ := trodVars_none hV
  obtain ⟨a0, len0, cap0, rfl⟩ := okWide_slice Tryd.underlying22 (hval 0 22 v0 rfl rfl)
  have lt0 : ∀ x ∈ p0, x.block < W.heap.size := by obtain ⟨m, hm⟩ := h0; exact DataW.trod_lt m _ _ _ hm
  obtain ⟨xs0, s0, b0⟩ := Al.letters_of h0 (Nat.le_refl _) (fun el sp e => by have := sized_slice hsz (j := 0) (t := 22) (e := 72) rfl (by rw [e]; rfl) Tryd.underlying22; rwa [bytesA] at this)
  obtain ⟨a1, len1, cap1, rfl⟩ := okWide_slice Tryd.underlying23 (hval 1 23 v1 rfl rfl)
  have lt1 : ∀ x ∈ p1, x.block < W.heap.size := by obtain ⟨m, hm⟩ := h1; exact DataW.trod_lt m _ _ _ hm
  obtain ⟨xs1, s1, z1⟩ := lexs_of h1 (fun x hx => by simpa using List.all_eq_true.1 hsz x (DataW.weights_mem_each (j := 1) (t := 23) rfl rfl x hx))
  obtain ⟨xs2, rfl, rfl, rfl, z2⟩ := open_int Tryd.underlying3 (hval 2 3 v2 rfl rfl) h2
  clear hA0
  refine (walk a0 len0 cap0 xs0 a1 len1 cap1 xs1 xs2 W (mx_of hSh) (Al.tabs_of hL) s0 b0 s1 z1 z2).mono fun e W' ⟨he, bel⟩ => ?_
  subst he
  exact ⟨_, rfl, _, _, _, [], _, [], hW', trodAll_mk1 (shut_bool Tryd.underlying4 _), (trodAll_cons_mk (Below.trod laidOut (by kernel_rfl) (of_decide_eq_true (by kernel_rfl)) h0 bel lt0) (trodAll_cons_mk (Below.trod laidOut (by kernel_rfl) (of_decide_eq_true (by kernel_rfl)) h1 bel lt1) (trodAll_cons_mk (shut_int Tryd.underlying3 z2) trodAll_mk0))), rfl, Below.frame bel _, fun h => by cases h⟩

theorem witness_row (os : Os) {H : Type} (enc : TypeId × Value → H) :
    (OpenSpec.ofChange Rows.lexiconOwnSpec).preRow enc Tryd.prog Tryd.f3 Rows.lexiconOwnRow.domain false Rows.lexiconOwnRow.laid ((laidWorld os).forCall (fun _ _ => 0) ⟨#[], #[.slice none 0 0, .slice none 0 0, .int .i64 0], []⟩).memory #[.slice none 0 0, .slice none 0 0, .int .i64 0] := by
  have hw : (DataW.whole enc Tryd.prog ((laidWorld os).forCall (fun _ _ => 0) ⟨#[], #[.slice none 0 0, .slice none 0 0, .int .i64 0], []⟩).memory Tryd.f3.params.toList Rows.lexiconOwnSpec.vars false (#[.slice none 0 0, .slice none 0 0, .int .i64 0] : Array Value).toList 8).map (fun x => (x.1, x.2.1)) =
      some ([.nil, .nil, .lit (.int .i64 0)], []) := by kernel_rfl
  obtain ⟨⟨x1, x2, x3⟩, hx, hx1⟩ := Option.map_eq_some_iff.1 hw
  simp only [Prod.mk.injEq] at hx1
  obtain ⟨rfl, rfl⟩ := hx1
  exact OpenSpec.preRow_of_cond 8 hx (by kernel_rfl) (fun k hk => by cases hk) (by kernel_rfl) (laid_met os _)

set_option maxRecDepth 100000 in
theorem lifted (os : Os) (started : os.Started) (H : Type) (enc : TypeId × Value → H) (F : Stop.Interp) :
    ReturnsInHanded {} Tryd.checked os 3 .any ((OpenSpec.ofChange Rows.lexiconOwnSpec).preRow enc Tryd.prog Tryd.f3 Rows.lexiconOwnRow.domain false Rows.lexiconOwnRow.laid) (((OpenSpec.ofChange Rows.lexiconOwnSpec).at F).post enc Tryd.prog Tryd.f3 false true false false) := by
  refine returnsInHanded_of_row (C := Tryd.checked) (s := (OpenSpec.ofChange Rows.lexiconOwnSpec)) own started (by kernel_rfl) Tryd.func3
    (witness_row_atRef (enc := enc) (C := Tryd.checked) false (laidWorld os) #[.slice none 0 0, .slice none 0 0, .int .i64 0] rfl (by kernel_rfl) (by kernel_rfl) (by kernel_rfl) (witness_row os enc)) ?_
  intro W base args ds gs before hval hW _ _ hsz hL hSh _
  exact contract H enc W base args ds gs before hval hW hsz hSh hL

theorem row : Rows.LexiconOwnSaid :=
  OpenClaim.holds_of_cond 3 Tryd.f3 rfl rfl rfl rfl rfl rfl rfl ⟨rfl, rfl, rfl, rfl, rfl⟩ rfl rfl rfl rfl rfl (by kernel_rfl) Tryd.func3 (by kernel_rfl)
    (of_decide_eq_true (by kernel_rfl)) (by unfold Func.isWrapper; rw [if_neg (of_decide_eq_false (by kernel_rfl))]; exact ⟨rfl, rfl⟩)
    (fun os started H enc _ F0 => by rw [OpenClaim.pre_eq_preRow]; exact lifted os started H enc F0)

/-- No parameter wants a stand-in; the program's own looks are off. -/
theorem plain (f : FuncId) (fn : Func) (hf : Tryd.pinned.checked.prog.funcNamed "pentaglot/pentaglotlaw09.LexiconOwn" = some f) (hfn : Tryd.pinned.checked.prog.funcs[f]? = some fn) :
    false = Tryd.pinned.checked.prog.looks [] ∧ ∀ (j : Nat) t, fn.params[j]? = some t → Tryd.pinned.checked.prog.wantsStandIn t = false := by
  obtain rfl : f = 3 := Option.some.inj ((show Tryd.prog.funcNamed "pentaglot/pentaglotlaw09.LexiconOwn" = some 3 by kernel_rfl).symm.trans hf) |>.symm
  obtain rfl : fn = Tryd.f3 := (Option.some.inj (Tryd.func3.symm.trans hfn)).symm
  refine ⟨by kernel_rfl, fun j t ht => ?_⟩
  rw [Tryd.params3] at ht
  have hm : t = 22 ∨ t = 23 ∨ t = 3 := by simpa using Array.mem_of_getElem? ht
  rcases hm with rfl | rfl | rfl
  · exact (show Tryd.prog.wantsStandIn 22 = false by kernel_rfl)
  · exact (show Tryd.prog.wantsStandIn 23 = false by kernel_rfl)
  · exact (show Tryd.prog.wantsStandIn 3 = false by kernel_rfl)

theorem proved : Rows.LexiconOwnCardSaid :=
  Claim7.holds_tied_plain_at .later [] _ _ _ _ row (fun _ h => by cases h) (by kernel_rfl) (fun _ h => by cases h) lexiconOwn_row_tie rfl ⟨rfl, rfl⟩ (by kernel_rfl) rfl plain (by kernel_rfl)
#print axioms proved
end Go.Proofs.YtfoeghabnbjbgaaDoor.lawOwn
