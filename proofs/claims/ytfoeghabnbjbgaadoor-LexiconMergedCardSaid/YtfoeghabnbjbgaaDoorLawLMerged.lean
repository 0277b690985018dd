/-
  LexiconMerged: in a merged lexicon the lexemes of both are found, and it is valid if both are: the law returns true. Conditions: none (every list of letters, every two lists of lexemes, of any size that an argument can have, and every string).
-/
import Derived.Test.YtfoeghabnbjbgaaDoorLexAwakeW
import Derived.Test.YtfoeghabnbjbgaaDoorLexFrame
import Derived.Test.YtfoeghabnbjbgaaDoorLexFind
import Derived.Test.YtfoeghabnbjbgaaDoorAlAll
import Derived.Test.YtfoeghabnbjbgaaDoorLexSame
import Derived.Test.YtfoeghabnbjbgaaDoorLexOwnP
import Derived.Test.YtfoeghabnbjbgaaDoorCards
import Derived.Test.YtfoeghabnbjbgaaDoorTie
import Derived.Deep.DeepWitnessRowRef
import Derived.Deep.DeepHandedRow
import Derived.Deep.Cut
import Derived.SevenTiedAt
namespace Go.Proofs.YtfoeghabnbjbgaaDoor.lawMerged
open Go.ChangeShapes Go.WideShapes Go.ChangeAt Go.RowKit
open Go.ChangeMaps (open_string shut_string)
open FeatPlain

set_option maxRecDepth 100000 in
set_option maxHeartbeats 6400000 in
theorem walk (A : Option Addr) (n c : Nat) (ls : List AlphPlain.Lt) (B : Option Addr) (m d : Nat) (xs : List Lx) (C : Option Addr) (m' d' : Nat) (ys : List Lx) (s : ByteArray) (w : World) (hM : Mx w) (hT : Al.Tabs w) (ha : Al.Ll w A n c ls) (_ : c * 8 ≤ reachBytes) (hb : Ls w B m d xs) (hok : Lok xs) (hc : Ls w C m' d' ys) (hokc : Lok ys) (_ : s.size ≤ maxLen) :
    Calls Tryd.prog 4 #[.slice A n c, .slice B m d, .slice C m' d', .string s] w (BoolPost w true) := by
  have hfew := fun W (k : Aft w W) => few_any B m d xs W (hb.aft k)
  have hfewc := fun W (k : Aft w W) => few_any C m' d' ys W (hc.aft k)
  cases hf : fewB xs
  · rw [hf] at hfew
    have HF := Lib.hid hfew
    clear hfew hfewc hf
    go_enter Tryd.func4, Tryd.ntmps4
    go_wp2_with fail
    refine (awakeL_any w hM).mono ?_
    rintro e wA ⟨rfl, AA⟩
    go_wp2_with fail
    refine (HF.out _ AA).mono ?_
    rintro e wF ⟨rfl, AF⟩
    have AO := AA.trans AF
    clear HF
    go_wp2_with fail
    refine (awakeL_any _ (hM.aft AO)).mono ?_
    rintro e wO ⟨rfl, AP⟩
    go_wp2
    go_ret
    exact ⟨rfl, AO.trans AP⟩
  · rw [hf] at hfew
    have HF := Lib.hid hfew
    have hn3 : m ≤ 300 := by
      simp only [fewB, Bool.and_eq_true, decide_eq_true_eq] at hf
      rw [← hb.len]; exact hf.2
    have HS2 := Lib.hid (few_stems hf)
    have HF20 := Lib.hid (few_fts hf hb.lw)
    clear hfew hf
    cases hg : fewB ys
    · rw [hg] at hfewc
      have HG := Lib.hid hfewc
      clear hfewc hg
      go_enter Tryd.func4, Tryd.ntmps4
      go_wp2_with fail
      refine (awakeL_any w hM).mono ?_
      rintro e wA ⟨rfl, AA⟩
      go_wp2_with fail
      refine (HF.out _ AA).mono ?_
      rintro e wF ⟨rfl, AF⟩
      have A0 := AA.trans AF
      go_wp2_with fail
      refine (HG.out _ A0).mono ?_
      rintro e wG ⟨rfl, AG⟩
      have AO := A0.trans AG
      clear HF HG
      go_wp2_with fail
      refine (awakeL_any _ (hM.aft AO)).mono ?_
      rintro e wO ⟨rfl, AP⟩
      go_wp2
      go_ret
      exact ⟨rfl, AO.trans AP⟩
    · rw [hg] at hfewc
      have HG := Lib.hid hfewc
      have hm3 : m' ≤ 300 := by
        simp only [fewB, Bool.and_eq_true, decide_eq_true_eq] at hg
        rw [← hc.len]; exact hg.2
      have HS3 := Lib.hid (few_stems hg)
      have HG20 := Lib.hid (few_fts hg hc.lw)
      clear hfewc hg
      by_cases h60 : s.size ≤ 60
      · have b60 : ¬ (60 : Int) < (s.size : Int) := by omega
        clear h60
        by_cases h70 : n ≤ 70
        · have b70 : ¬ (70 : Int) < (n : Int) := by omega
          have HME := Lib.hid (fun W (q : Aft w W) => Merge_any B m d xs C m' d' ys W (hb.aft q) (hc.aft q) hok.fn hokc.fn (by omega) (by omega))
          clear h70
          by_cases hE : mergeE xs ys = 0
          · go_enter Tryd.func4, Tryd.ntmps4
            go_wp2_with fail
            refine (awakeL_any w hM).mono ?_
            rintro e wA ⟨rfl, AA⟩
            go_wp2_with fail
            refine (HF.out _ AA).mono ?_
            rintro e wF ⟨rfl, AF⟩
            have A0 := AA.trans AF
            go_wp2_with fail
            refine (HG.out _ A0).mono ?_
            rintro e wG ⟨rfl, AG⟩
            have A1 := A0.trans AG
            have H1 := Lib.hid (HME.out _ A1)
            clear HF HG HME
            go_wp2_with fail
            refine H1.out.mono ?_
            rintro e w2 ⟨A2, D, k, f, zs, he, hD, hz⟩
            rw [hE] at he
            rw [if_pos hE] at hz
            subst he
            have HE := Lib.hid hE
            have HD := Lib.hid hD
            have HZ := Lib.hid hz
            have A02 := A1.trans A2
            clear hE hD hz H1
            have H3 := Lib.hid (Find_any B m d xs s w2 (hb.aft A02) hok.fn)
            go_wp2_with fail
            refine H3.out.mono ?_
            rintro e w3 ⟨A3, y1, rfl, hy1, hys1⟩
            generalize hb1 : ((xs.find? fun z => decide (z.id = s)).map Lx.say).isSome = o1
            have HB1 := Lib.hid hb1
            clear hb1
            have B3 : Aft w2 (w3.alloc (.cells #[.string y1.id, .string y1.cat, .string y1.stem, .string y1.par, .slice y1.fa y1.fn y1.fc] 30)) := A3.alloc _
            have f1 := Lib.hid (five_new w3 y1 30)
            have l1 := Lib.hid (hy1.aft ((Aft.refl w3).alloc (.cells #[.string y1.id, .string y1.cat, .string y1.stem, .string y1.par, .slice y1.fa y1.fn y1.fc] 30)))
            have HYS1 := Lib.hid hys1
            clear H3 hy1 hys1
            have H4 := Lib.hid (Find_any C m' d' ys s _ (hc.aft (A02.trans B3)) hokc.fn)
            go_wp2_with fail
            refine H4.out.mono ?_
            rintro e w4 ⟨A4, y2, rfl, hy2, hys2⟩
            generalize hb2 : ((ys.find? fun z => decide (z.id = s)).map Lx.say).isSome = o2
            have HB2 := Lib.hid hb2
            clear hb2
            have B4 : Aft (w3.alloc (.cells #[.string y1.id, .string y1.cat, .string y1.stem, .string y1.par, .slice y1.fa y1.fn y1.fc] 30)) (w4.alloc (.cells #[.string y2.id, .string y2.cat, .string y2.stem, .string y2.par, .slice y2.fa y2.fn y2.fc] 30)) := A4.alloc _
            have f2 := Lib.hid (five_new w4 y2 30)
            have l2 := Lib.hid (hy2.aft ((Aft.refl w4).alloc (.cells #[.string y2.id, .string y2.cat, .string y2.stem, .string y2.par, .slice y2.fa y2.fn y2.fc] 30)))
            have HYS2 := Lib.hid hys2
            clear H4 hy2 hys2
            have B34 := B3.trans B4
            have H5 := Lib.hid (Find_any D k f zs s _ (HD.out.aft B34) (fn_small (fun x hx => (by
              rcases List.mem_append.1 hx with h | h
              · exact HF20.out x h
              · exact HG20.out x h)) HD.out.lw HZ.out))
            rw [find_merged s HZ.out] at H5
            go_wp2_with fail
            refine H5.out.mono ?_
            rintro e w5 ⟨A5, y3, rfl, hy3, hys3⟩
            generalize hb3 : (((xs.find? fun z => decide (z.id = s)).map Lx.say).or ((ys.find? fun z => decide (z.id = s)).map Lx.say)).isSome = o3
            have HB3 := Lib.hid hb3
            clear hb3
            have B5 : Aft (w4.alloc (.cells #[.string y2.id, .string y2.cat, .string y2.stem, .string y2.par, .slice y2.fa y2.fn y2.fc] 30)) (w5.alloc (.cells #[.string y3.id, .string y3.cat, .string y3.stem, .string y3.par, .slice y3.fa y3.fn y3.fc] 30)) := A5.alloc _
            have f3 := Lib.hid (five_new w5 y3 30)
            have l3 := Lib.hid (hy3.aft ((Aft.refl w5).alloc (.cells #[.string y3.id, .string y3.cat, .string y3.stem, .string y3.par, .slice y3.fa y3.fn y3.fc] 30)))
            have HYS3 := Lib.hid hys3
            clear H5 hy3 hys3
            have A05 := (A02.trans B34).trans B5
            have HVZ := Lib.hid (fun W (q : Aft w W) (q2 : Aft (w5.alloc (.cells #[.string y3.id, .string y3.cat, .string y3.stem, .string y3.par, .slice y3.fa y3.fn y3.fc] 30)) W) => ValidL_any A n c ls D k f zs W (Al.tabs_aft hT q) (ha.aft q) ((HD.out.aft (B34.trans B5)).aft q2) (of_say (P := fun t => Sized t.2.2.2.2) HZ.out (fun x hx => (by
              rcases List.mem_append.1 hx with h | h
              · exact hok.sz x h
              · exact hokc.sz x h))) (of_say (P := fun t => t.2.2.1.size ≤ 200) HZ.out (fun x hx => (by
              rcases List.mem_append.1 hx with h | h
              · exact HS2.out x h
              · exact HS3.out x h))))
            have HVX := Lib.hid (fun W (q : Aft w W) => ValidL_any A n c ls B m d xs W (Al.tabs_aft hT q) (ha.aft q) (hb.aft q) hok.sz HS2.out)
            have HVY := Lib.hid (fun W (q : Aft w W) => ValidL_any A n c ls C m' d' ys W (Al.tabs_aft hT q) (ha.aft q) (hc.aft q) hokc.sz HS3.out)
            have HVM := Lib.hid (valid_merged (ls := ls) HE.out HZ.out)
            generalize (xs.find? fun z => decide (z.id = s)).map Lx.say = R1 at HYS1 HYS3 HB1 HB3
            generalize (ys.find? fun z => decide (z.id = s)).map Lx.say = R2 at HYS2 HYS3 HB2 HB3
            have HL1 := Lib.hid (l1.out.aft (B4.trans B5))
            have HL2 := Lib.hid (l2.out.aft B5)
            have HL3 := Lib.hid l3.out
            obtain ⟨p0, p1, p2, p3, p4⟩ := f1.out.aft (B4.trans B5)
            obtain ⟨q0, q1, q2, q3, q4⟩ := f2.out.aft B5
            obtain ⟨r0, r1, r2, r3, r4⟩ := f3.out
            simp only [Nat.zero_add] at p1 p2 p3 p4 q1 q2 q3 q4 r1 r2 r3 r4
            clear f1 f2 f3 l1 l2 l3 B3 B4 B5 B34 HD
            cases R1 with
            | some t1 =>
              obtain rfl : true = o1 := HB1.out
              obtain rfl : true = o3 := HB3.out
              have hsm := sameL_any y3 y1 _ HL3.out HL1.out
              rw [decide_eq_true (show y3.say = y1.say from HYS3.out.trans HYS1.out.symm)] at hsm
              have HSM := Lib.hid hsm
              clear hsm q0 q1 q2 q3 q4 HL1 HL2 HL3 HB2
              cases o2
              · go_wp2_with fail
                refine HSM.out.mono ?_
                rintro e w6 ⟨rfl, A6⟩
                have AC := A05.trans A6
                have hvz := HVZ.out _ AC A6
                have hvx := fun W' (q : Aft w W') => HVX.out W' q
                rw [HVM.out] at hvz
                cases hv : validLx ls xs
                · rw [hv] at hvz hvx
                  have T1 := Lib.hid hvz
                  have T2 := Lib.hid hvx
                  clear hvz hvx HVZ HVX hv
                  go_wp2_with fail
                  refine T1.out.mono ?_
                  rintro e w7 ⟨rfl, A7⟩
                  have T3 := Lib.hid (T2.out _ (AC.trans A7))
                  go_wp2_with fail
                  refine T3.out.mono ?_
                  rintro e w8 ⟨rfl, A8⟩
                  go_wp2
                  go_ret
                  exact ⟨rfl, (AC.trans A7).trans A8⟩
                · rw [hv] at hvz hvx
                  cases hy : validLx ls ys
                  · have hvy := fun W' (q : Aft w W') => HVY.out W' q
                    rw [hy] at hvz hvy
                    have T4 := Lib.hid hvy
                    clear hvy hy HVY
                    have T1 := Lib.hid hvz
                    have T2 := Lib.hid hvx
                    clear hvz hvx HVZ HVX hv
                    go_wp2_with fail
                    refine T1.out.mono ?_
                    rintro e w7 ⟨rfl, A7⟩
                    have T3 := Lib.hid (T2.out _ (AC.trans A7))
                    go_wp2_with fail
                    refine T3.out.mono ?_
                    rintro e w8 ⟨rfl, A8⟩
                    have T5 := Lib.hid (T4.out _ ((AC.trans A7).trans A8))
                    go_wp2_with fail
                    refine T5.out.mono ?_
                    rintro e w9 ⟨rfl, A9⟩
                    go_wp2
                    go_ret
                    exact ⟨rfl, ((AC.trans A7).trans A8).trans A9⟩
                  · have hvy := fun W' (q : Aft w W') => HVY.out W' q
                    rw [hy] at hvz hvy
                    have T4 := Lib.hid hvy
                    clear hvy hy HVY
                    have T1 := Lib.hid hvz
                    have T2 := Lib.hid hvx
                    clear hvz hvx HVZ HVX hv
                    go_wp2_with fail
                    refine T1.out.mono ?_
                    rintro e w7 ⟨rfl, A7⟩
                    have T3 := Lib.hid (T2.out _ (AC.trans A7))
                    go_wp2_with fail
                    refine T3.out.mono ?_
                    rintro e w8 ⟨rfl, A8⟩
                    have T5 := Lib.hid (T4.out _ ((AC.trans A7).trans A8))
                    go_wp2_with fail
                    refine T5.out.mono ?_
                    rintro e w9 ⟨rfl, A9⟩
                    go_wp2
                    go_ret
                    exact ⟨rfl, ((AC.trans A7).trans A8).trans A9⟩
              · go_wp2_with fail
                refine HSM.out.mono ?_
                rintro e w6 ⟨rfl, A6⟩
                have AC := A05.trans A6
                have hvz := HVZ.out _ AC A6
                have hvx := fun W' (q : Aft w W') => HVX.out W' q
                rw [HVM.out] at hvz
                cases hv : validLx ls xs
                · rw [hv] at hvz hvx
                  have T1 := Lib.hid hvz
                  have T2 := Lib.hid hvx
                  clear hvz hvx HVZ HVX hv
                  go_wp2_with fail
                  refine T1.out.mono ?_
                  rintro e w7 ⟨rfl, A7⟩
                  have T3 := Lib.hid (T2.out _ (AC.trans A7))
                  go_wp2_with fail
                  refine T3.out.mono ?_
                  rintro e w8 ⟨rfl, A8⟩
                  go_wp2
                  go_ret
                  exact ⟨rfl, (AC.trans A7).trans A8⟩
                · rw [hv] at hvz hvx
                  cases hy : validLx ls ys
                  · have hvy := fun W' (q : Aft w W') => HVY.out W' q
                    rw [hy] at hvz hvy
                    have T4 := Lib.hid hvy
                    clear hvy hy HVY
                    have T1 := Lib.hid hvz
                    have T2 := Lib.hid hvx
                    clear hvz hvx HVZ HVX hv
                    go_wp2_with fail
                    refine T1.out.mono ?_
                    rintro e w7 ⟨rfl, A7⟩
                    have T3 := Lib.hid (T2.out _ (AC.trans A7))
                    go_wp2_with fail
                    refine T3.out.mono ?_
                    rintro e w8 ⟨rfl, A8⟩
                    have T5 := Lib.hid (T4.out _ ((AC.trans A7).trans A8))
                    go_wp2_with fail
                    refine T5.out.mono ?_
                    rintro e w9 ⟨rfl, A9⟩
                    go_wp2
                    go_ret
                    exact ⟨rfl, ((AC.trans A7).trans A8).trans A9⟩
                  · have hvy := fun W' (q : Aft w W') => HVY.out W' q
                    rw [hy] at hvz hvy
                    have T4 := Lib.hid hvy
                    clear hvy hy HVY
                    have T1 := Lib.hid hvz
                    have T2 := Lib.hid hvx
                    clear hvz hvx HVZ HVX hv
                    go_wp2_with fail
                    refine T1.out.mono ?_
                    rintro e w7 ⟨rfl, A7⟩
                    have T3 := Lib.hid (T2.out _ (AC.trans A7))
                    go_wp2_with fail
                    refine T3.out.mono ?_
                    rintro e w8 ⟨rfl, A8⟩
                    have T5 := Lib.hid (T4.out _ ((AC.trans A7).trans A8))
                    go_wp2_with fail
                    refine T5.out.mono ?_
                    rintro e w9 ⟨rfl, A9⟩
                    go_wp2
                    go_ret
                    exact ⟨rfl, ((AC.trans A7).trans A8).trans A9⟩
            | none =>
              obtain rfl : false = o1 := HB1.out
              cases R2 with
              | some t2 =>
                obtain rfl : true = o2 := HB2.out
                obtain rfl : true = o3 := HB3.out
                have hsm := sameL_any y3 y2 _ HL3.out HL2.out
                rw [decide_eq_true (show y3.say = y2.say from HYS3.out.trans HYS2.out.symm)] at hsm
                have HSM := Lib.hid hsm
                clear hsm
                go_wp2_with fail
                refine HSM.out.mono ?_
                rintro e w6 ⟨rfl, A6⟩
                have AC := A05.trans A6
                have hvz := HVZ.out _ AC A6
                have hvx := fun W' (q : Aft w W') => HVX.out W' q
                rw [HVM.out] at hvz
                cases hv : validLx ls xs
                · rw [hv] at hvz hvx
                  have T1 := Lib.hid hvz
                  have T2 := Lib.hid hvx
                  clear hvz hvx HVZ HVX hv
                  go_wp2_with fail
                  refine T1.out.mono ?_
                  rintro e w7 ⟨rfl, A7⟩
                  have T3 := Lib.hid (T2.out _ (AC.trans A7))
                  go_wp2_with fail
                  refine T3.out.mono ?_
                  rintro e w8 ⟨rfl, A8⟩
                  go_wp2
                  go_ret
                  exact ⟨rfl, (AC.trans A7).trans A8⟩
                · rw [hv] at hvz hvx
                  cases hy : validLx ls ys
                  · have hvy := fun W' (q : Aft w W') => HVY.out W' q
                    rw [hy] at hvz hvy
                    have T4 := Lib.hid hvy
                    clear hvy hy HVY
                    have T1 := Lib.hid hvz
                    have T2 := Lib.hid hvx
                    clear hvz hvx HVZ HVX hv
                    go_wp2_with fail
                    refine T1.out.mono ?_
                    rintro e w7 ⟨rfl, A7⟩
                    have T3 := Lib.hid (T2.out _ (AC.trans A7))
                    go_wp2_with fail
                    refine T3.out.mono ?_
                    rintro e w8 ⟨rfl, A8⟩
                    have T5 := Lib.hid (T4.out _ ((AC.trans A7).trans A8))
                    go_wp2_with fail
                    refine T5.out.mono ?_
                    rintro e w9 ⟨rfl, A9⟩
                    go_wp2
                    go_ret
                    exact ⟨rfl, ((AC.trans A7).trans A8).trans A9⟩
                  · have hvy := fun W' (q : Aft w W') => HVY.out W' q
                    rw [hy] at hvz hvy
                    have T4 := Lib.hid hvy
                    clear hvy hy HVY
                    have T1 := Lib.hid hvz
                    have T2 := Lib.hid hvx
                    clear hvz hvx HVZ HVX hv
                    go_wp2_with fail
                    refine T1.out.mono ?_
                    rintro e w7 ⟨rfl, A7⟩
                    have T3 := Lib.hid (T2.out _ (AC.trans A7))
                    go_wp2_with fail
                    refine T3.out.mono ?_
                    rintro e w8 ⟨rfl, A8⟩
                    have T5 := Lib.hid (T4.out _ ((AC.trans A7).trans A8))
                    go_wp2_with fail
                    refine T5.out.mono ?_
                    rintro e w9 ⟨rfl, A9⟩
                    go_wp2
                    go_ret
                    exact ⟨rfl, ((AC.trans A7).trans A8).trans A9⟩
              | none =>
                obtain rfl : false = o2 := HB2.out
                obtain rfl : false = o3 := HB3.out
                have AC := A05.trans (Aft.refl _)
                have hvz := HVZ.out _ AC (Aft.refl _)
                have hvx := fun W' (q : Aft w W') => HVX.out W' q
                rw [HVM.out] at hvz
                cases hv : validLx ls xs
                · rw [hv] at hvz hvx
                  have T1 := Lib.hid hvz
                  have T2 := Lib.hid hvx
                  clear hvz hvx HVZ HVX hv
                  go_wp2_with fail
                  refine T1.out.mono ?_
                  rintro e w7 ⟨rfl, A7⟩
                  have T3 := Lib.hid (T2.out _ (AC.trans A7))
                  go_wp2_with fail
                  refine T3.out.mono ?_
                  rintro e w8 ⟨rfl, A8⟩
                  go_wp2
                  go_ret
                  exact ⟨rfl, (AC.trans A7).trans A8⟩
                · rw [hv] at hvz hvx
                  cases hy : validLx ls ys
                  · have hvy := fun W' (q : Aft w W') => HVY.out W' q
                    rw [hy] at hvz hvy
                    have T4 := Lib.hid hvy
                    clear hvy hy HVY
                    have T1 := Lib.hid hvz
                    have T2 := Lib.hid hvx
                    clear hvz hvx HVZ HVX hv
                    go_wp2_with fail
                    refine T1.out.mono ?_
                    rintro e w7 ⟨rfl, A7⟩
                    have T3 := Lib.hid (T2.out _ (AC.trans A7))
                    go_wp2_with fail
                    refine T3.out.mono ?_
                    rintro e w8 ⟨rfl, A8⟩
                    have T5 := Lib.hid (T4.out _ ((AC.trans A7).trans A8))
                    go_wp2_with fail
                    refine T5.out.mono ?_
                    rintro e w9 ⟨rfl, A9⟩
                    go_wp2
                    go_ret
                    exact ⟨rfl, ((AC.trans A7).trans A8).trans A9⟩
                  · have hvy := fun W' (q : Aft w W') => HVY.out W' q
                    rw [hy] at hvz hvy
                    have T4 := Lib.hid hvy
                    clear hvy hy HVY
                    have T1 := Lib.hid hvz
                    have T2 := Lib.hid hvx
                    clear hvz hvx HVZ HVX hv
                    go_wp2_with fail
                    refine T1.out.mono ?_
                    rintro e w7 ⟨rfl, A7⟩
                    have T3 := Lib.hid (T2.out _ (AC.trans A7))
                    go_wp2_with fail
                    refine T3.out.mono ?_
                    rintro e w8 ⟨rfl, A8⟩
                    have T5 := Lib.hid (T4.out _ ((AC.trans A7).trans A8))
                    go_wp2_with fail
                    refine T5.out.mono ?_
                    rintro e w9 ⟨rfl, A9⟩
                    go_wp2
                    go_ret
                    exact ⟨rfl, ((AC.trans A7).trans A8).trans A9⟩
          · have HE := Lib.hid hE
            have hE' : ¬ ((mergeE xs ys : Nat) : Int) = 0 := by omega
            go_enter Tryd.func4, Tryd.ntmps4
            go_wp2_with fail
            refine (awakeL_any w hM).mono ?_
            rintro e wA ⟨rfl, AA⟩
            go_wp2_with fail
            refine (HF.out _ AA).mono ?_
            rintro e wF ⟨rfl, AF⟩
            have A0 := AA.trans AF
            go_wp2_with fail
            refine (HG.out _ A0).mono ?_
            rintro e wG ⟨rfl, AG⟩
            have A1 := A0.trans AG
            have H1 := Lib.hid (HME.out _ A1)
            clear HF HG HME
            go_wp2_with fail
            refine H1.out.mono ?_
            rintro e w2 ⟨A2, D, k, f, zs, rfl, hD, hz⟩
            rw [if_neg hE] at hz
            obtain rfl : zs = [] := by simpa using hz
            obtain rfl : k = 0 := by simpa using hD.len.symm
            have A02 := A1.trans A2
            clear hz hD HE hE H1
            generalize ((mergeE xs ys : Nat) : Int) = E at hE' ⊢
            go_wp2
            go_ret
            exact ⟨rfl, A02⟩
        · have b70 : (70 : Int) < (n : Int) := by omega
          clear h70
          go_enter Tryd.func4, Tryd.ntmps4
          go_wp2_with fail
          refine (awakeL_any w hM).mono ?_
          rintro e wA ⟨rfl, AA⟩
          go_wp2_with fail
          refine (HF.out _ AA).mono ?_
          rintro e wF ⟨rfl, AF⟩
          have A0 := AA.trans AF
          go_wp2_with fail
          refine (HG.out _ A0).mono ?_
          rintro e wG ⟨rfl, AG⟩
          have AO := A0.trans AG
          clear HF HG
          go_wp2_with fail
          refine (awakeL_any _ (hM.aft AO)).mono ?_
          rintro e wO ⟨rfl, AP⟩
          go_wp2
          go_ret
          exact ⟨rfl, AO.trans AP⟩
      · have b60 : (60 : Int) < (s.size : Int) := by omega
        clear h60
        go_enter Tryd.func4, Tryd.ntmps4
        go_wp2_with fail
        refine (awakeL_any w hM).mono ?_
        rintro e wA ⟨rfl, AA⟩
        go_wp2_with fail
        refine (HF.out _ AA).mono ?_
        rintro e wF ⟨rfl, AF⟩
        have A0 := AA.trans AF
        go_wp2_with fail
        refine (HG.out _ A0).mono ?_
        rintro e wG ⟨rfl, AG⟩
        have AO := A0.trans AG
        clear HF HG
        go_wp2_with fail
        refine (awakeL_any _ (hM.aft AO)).mono ?_
        rintro e wO ⟨rfl, AP⟩
        go_wp2
        go_ret
        exact ⟨rfl, AO.trans AP⟩

theorem own : ownKnob Tryd.prog.godebug = none := by kernel_rfl
theorem laidOut : laidOutB Tryd.prog = true := by kernel_rfl
theorem bytesA : Tryd.prog.bytesOf 72 = 8 := by kernel_rfl

set_option maxRecDepth 100000 in
theorem contract (H : Type) (enc : TypeId × Value → H) (W : World) (base : Nat) (args : Array Value) (ds gs : List (DataW H)) (before : List MemPlace)
    (hval : ∀ (j : Nat) t v, Tryd.f4.params[j]? = some t → args[j]? = some v → Value.okWide Tryd.prog W .any base t v)
    (hW : DataW.Whole enc Tryd.prog Tryd.f4.params.toList Rows.lexiconMergedSpec.vars false W args.toList ds gs before) (hsz0 : (DataW.weightsEach Tryd.prog (Tryd.f4.params.toList ++ Rows.lexiconMergedSpec.plain.varTypes Tryd.prog) (ds ++ gs)).all (· ≤ reachBytes) = true) (hSh : W.ShapedOpen Tryd.prog) (hL : laidMetH Tryd.prog Al.listed W) :
    Calls Tryd.prog 4 args W fun e W' => ∃ v, e = .returned v ∧ Rows.lexiconMergedSpec.post enc Tryd.prog Tryd.f4 false true false false W args v W' := by
  have hW' := hW
  obtain ⟨p, q, hA0, hV, rfl, hfz, hnd⟩ := hW
  have hA : DataW.TrodAll enc Tryd.prog W 0 (fun _ => true) true Tryd.f4.params.toList args.toList ds p := hA0
  have hsz := hsz0
  rw [Tryd.params4] at hA hval hsz
  obtain ⟨v0, vs0, d0, ds0, p0, q0, hargs, rfl, rfl, h0, r0⟩ := trodAll_cons hA
  obtain ⟨v1, vs1, d1, ds1, p1, q1, rfl, rfl, rfl, h1, r1⟩ := trodAll_cons r0
  obtain ⟨v2, vs2, d2, ds2, p2, q2, rfl, rfl, rfl, h2, r2⟩ := trodAll_cons r1
  obtain ⟨v3, vs3, d3, ds3, p3, q3, rfl, rfl, rfl, h3, r3⟩ := trodAll_cons r2
  obtain ⟨rfl, rfl, rfl⟩ := trodAll_nil r3
  obtain rfl : args = #[v0, v1, v2, v3] := by cases args; simp_all
  obtain ⟨rfl, rfl⟩ := trodVars_none hV
  obtain ⟨a0, len0, cap0, rfl⟩ := okWide_slice Tryd.underlying22 (hval 0 22 v0 rfl rfl)
  have lt0 : ∀ x ∈ p0, x.block < W.heap.size := by obtain ⟨m, hm⟩ := h0; exact DataW.trod_lt m _ _ _ hm
  obtain ⟨xs0, s0, b0⟩ := Al.letters_of h0 (Nat.le_refl _) (fun el sp e => by have := sized_slice hsz (j := 0) (t := 22) (e := 72) rfl (by rw [e]; rfl) Tryd.underlying22; rwa [bytesA] at this)
  obtain ⟨a1, len1, cap1, rfl⟩ := okWide_slice Tryd.underlying23 (hval 1 23 v1 rfl rfl)
  have lt1 : ∀ x ∈ p1, x.block < W.heap.size := by obtain ⟨m, hm⟩ := h1; exact DataW.trod_lt m _ _ _ hm
  obtain ⟨xs1, s1, z1⟩ := lexs_of h1 (fun x hx => by simpa using List.all_eq_true.1 hsz x (DataW.weights_mem_each (j := 1) (t := 23) rfl rfl x hx))
  obtain ⟨a2, len2, cap2, rfl⟩ := okWide_slice Tryd.underlying23 (hval 2 23 v2 rfl rfl)
  have lt2 : ∀ x ∈ p2, x.block < W.heap.size := by obtain ⟨m, hm⟩ := h2; exact DataW.trod_lt m _ _ _ hm
  obtain ⟨xs2, s2, z2⟩ := lexs_of h2 (fun x hx => by simpa using List.all_eq_true.1 hsz x (DataW.weights_mem_each (j := 2) (t := 23) rfl rfl x hx))
  obtain ⟨xs3, rfl, rfl, rfl, z3⟩ := open_string Tryd.underlying9 (hval 3 9 v3 rfl rfl) h3
  clear hA0
  refine (walk a0 len0 cap0 xs0 a1 len1 cap1 xs1 a2 len2 cap2 xs2 xs3 W (mx_of hSh) (Al.tabs_of hL) s0 b0 s1 z1 s2 z2 z3).mono fun e W' ⟨he, bel⟩ => ?_
  subst he
  exact ⟨_, rfl, _, _, _, [], _, [], hW', trodAll_mk1 (shut_bool Tryd.underlying4 _), (trodAll_cons_mk (Below.trod laidOut (by kernel_rfl) (of_decide_eq_true (by kernel_rfl)) h0 bel lt0) (trodAll_cons_mk (Below.trod laidOut (by kernel_rfl) (of_decide_eq_true (by kernel_rfl)) h1 bel lt1) (trodAll_cons_mk (Below.trod laidOut (by kernel_rfl) (of_decide_eq_true (by kernel_rfl)) h2 bel lt2) (trodAll_cons_mk (shut_string Tryd.underlying9 z3) trodAll_mk0)))), rfl, Below.frame bel _, fun h => by cases h⟩

theorem witness_row (os : Os) {H : Type} (enc : TypeId × Value → H) :
    (OpenSpec.ofChange Rows.lexiconMergedSpec).preRow enc Tryd.prog Tryd.f4 Rows.lexiconMergedRow.domain false Rows.lexiconMergedRow.laid ((laidWorld os).forCall (fun _ _ => 0) ⟨#[], #[.slice none 0 0, .slice none 0 0, .slice none 0 0, .string ⟨#[]⟩], []⟩).memory #[.slice none 0 0, .slice none 0 0, .slice none 0 0, .string ⟨#[]⟩] := by
  have hw : (DataW.whole enc Tryd.prog ((laidWorld os).forCall (fun _ _ => 0) ⟨#[], #[.slice none 0 0, .slice none 0 0, .slice none 0 0, .string ⟨#[]⟩], []⟩).memory Tryd.f4.params.toList Rows.lexiconMergedSpec.vars false (#[.slice none 0 0, .slice none 0 0, .slice none 0 0, .string ⟨#[]⟩] : Array Value).toList 8).map (fun x => (x.1, x.2.1)) =
      some ([.nil, .nil, .nil, .lit (.string [])], []) := by kernel_rfl
  obtain ⟨⟨x1, x2, x3⟩, hx, hx1⟩ := Option.map_eq_some_iff.1 hw
  simp only [Prod.mk.injEq] at hx1
  obtain ⟨rfl, rfl⟩ := hx1
  exact OpenSpec.preRow_of_cond 8 hx (by kernel_rfl) (fun k hk => by cases hk) (by kernel_rfl) (laid_met os _)

set_option maxRecDepth 100000 in
theorem lifted (os : Os) (started : os.Started) (H : Type) (enc : TypeId × Value → H) (F : Stop.Interp) :
    ReturnsInHanded {} Tryd.checked os 4 .any ((OpenSpec.ofChange Rows.lexiconMergedSpec).preRow enc Tryd.prog Tryd.f4 Rows.lexiconMergedRow.domain false Rows.lexiconMergedRow.laid) (((OpenSpec.ofChange Rows.lexiconMergedSpec).at F).post enc Tryd.prog Tryd.f4 false true false false) := by
  refine returnsInHanded_of_row (C := Tryd.checked) (s := (OpenSpec.ofChange Rows.lexiconMergedSpec)) own started (by kernel_rfl) Tryd.func4
    (witness_row_atRef (enc := enc) (C := Tryd.checked) false (laidWorld os) #[.slice none 0 0, .slice none 0 0, .slice none 0 0, .string ⟨#[]⟩] rfl (by kernel_rfl) (by kernel_rfl) (by kernel_rfl) (witness_row os enc)) ?_
  intro W base args ds gs before hval hW _ _ hsz hL hSh _
  exact contract H enc W base args ds gs before hval hW hsz hSh hL

theorem row : Rows.LexiconMergedSaid :=
  OpenClaim.holds_of_cond 4 Tryd.f4 rfl rfl rfl rfl rfl rfl rfl ⟨rfl, rfl, rfl, rfl, rfl⟩ rfl rfl rfl rfl rfl (by kernel_rfl) Tryd.func4 (by kernel_rfl)
    (of_decide_eq_true (by kernel_rfl)) (by unfold Func.isWrapper; rw [if_neg (of_decide_eq_false (by kernel_rfl))]; exact ⟨rfl, rfl⟩)
    (fun os started H enc _ F0 => by rw [OpenClaim.pre_eq_preRow]; exact lifted os started H enc F0)

/-- No parameter wants a stand-in; the program's own looks are off. -/
theorem plain (f : FuncId) (fn : Func) (hf : Tryd.pinned.checked.prog.funcNamed "pentaglot/pentaglotlaw09.LexiconMerged" = some f) (hfn : Tryd.pinned.checked.prog.funcs[f]? = some fn) :
    false = Tryd.pinned.checked.prog.looks [] ∧ ∀ (j : Nat) t, fn.params[j]? = some t → Tryd.pinned.checked.prog.wantsStandIn t = false := by
  obtain rfl : f = 4 := Option.some.inj ((show Tryd.prog.funcNamed "pentaglot/pentaglotlaw09.LexiconMerged" = some 4 by kernel_rfl).symm.trans hf) |>.symm
  obtain rfl : fn = Tryd.f4 := (Option.some.inj (Tryd.func4.symm.trans hfn)).symm
  refine ⟨by kernel_rfl, fun j t ht => ?_⟩
  rw [Tryd.params4] at ht
  have hm : t = 22 ∨ t = 23 ∨ t = 23 ∨ t = 9 := by simpa using Array.mem_of_getElem? ht
  rcases hm with rfl | rfl | rfl | rfl
  · exact (show Tryd.prog.wantsStandIn 22 = false by kernel_rfl)
  · exact (show Tryd.prog.wantsStandIn 23 = false by kernel_rfl)
  · exact (show Tryd.prog.wantsStandIn 23 = false by kernel_rfl)
  · exact (show Tryd.prog.wantsStandIn 9 = false by kernel_rfl)

theorem proved : Rows.LexiconMergedCardSaid :=
  Claim7.holds_tied_plain_at .later [] _ _ _ _ row (fun _ h => by cases h) (by kernel_rfl) (fun _ h => by cases h) lexiconMerged_row_tie rfl ⟨rfl, rfl⟩ (by kernel_rfl) rfl plain (by kernel_rfl)
#print axioms proved
end Go.Proofs.YtfoeghabnbjbgaaDoor.lawMerged
