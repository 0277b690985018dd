/-
  The reference's Words. Conditions: the system is valid and lies where it says; the number is below the fourth power of the base.
-/
import Derived.Test.YtdehghmpfkhljaaDoorNumJoin
import Derived.Test.YtdehghmpfkhljaaDoorNumLaw
import Derived.Test.YtdehghmpfkhljaaDoorRegion
import Derived.Deep.CutRange
import Derived.Deep.CutBlock
namespace Go.Proofs.YtdehghmpfkhljaaDoor
open Go.RowKit
open NumPlain

/-- The reference says the words of n. -/
def RW (x : Nm) (n : Nat) : Prop := ∀ w, Nw w x → Calls Tryd.prog 24 #[nV x, .int .i64 (n : Int)] w (SlPost w (wordsB x n))
def PW (x : Nm) (j P : Nat) : Prop := P = bs x ^ (j + 1)
theorem words_short (x : Nm) (n : Nat) : (wordsB x n).length ≤ 10 := W_len x 3 n

set_option maxRecDepth 100000 in
set_option maxHeartbeats 1600000 in
theorem rw_dig (x : Nm) (hL : Len x) (n : Nat) (hn : n < bs x) : RW x n := by
  intro w hw
  have hbase : x.base = (bs x : Int) := by unfold bs; rcases hL.ok.base with h | h <;> rw [h] <;> rfl
  have hlt : (n : Int) < x.base := by omega
  have hdn := hw.rd.len
  rw [hL.ds] at hdn
  obtain ⟨b, off, s, hA, hs, g1⟩ := hw.rd.at_ (show n < x.dn by omega)
  have HV := Lib.hid (show wordsB x n = [s] by rw [words_low hL hn]; simp [List.getD, hs])
  have hni : (n : Int) < (x.dn : Int) := by omega
  have hle := hw.rd.le
  have hcm := hw.rd.cmax
  have AL : Aft w (w.alloc (.cells (nC x) 24)) := (Aft.refl w).alloc _
  obtain ⟨c0, c1, c2, c3, c4, c5, c6, c7⟩ := Bx.new w x 24
  have g2 := AL.cell g1
  rw [hA] at c1
  clear hbase hdn hs hw hA hL hn
  go_enter Tryd.func24, Tryd.ntmps24
  go_wp2
  go_ret
  refine ⟨⟨_, _, _, rfl, ?_⟩, AL.alloc _⟩
  rw [HV.out]
  exact row1 (by simp)

set_option maxRecDepth 100000 in
set_option maxHeartbeats 6400000 in
theorem rw_gen (x : Nm) (hL : Len x) (i n : Nat) (hi : i < 3) (h1 : bs x ^ (i + 1) ≤ n) (h2 : n < bs x ^ (i + 1 + 1)) (hd : ∀ m, m < bs x → RW x m)
    (hm : (0 < x.sub ∧ bs x ^ (i + 1) ≤ n % bs x ^ (i + 1) + x.sub.toNat ∧ n / bs x ^ (i + 1) + 1 < bs x) → RW x ((n / bs x ^ (i + 1) + 1) * bs x ^ (i + 1))) (hr : n % bs x ^ (i + 1) ≠ 0 → RW x (n % bs x ^ (i + 1))) : RW x n := by
  intro w hw
  have hws := words_sub hL hi h1 h2
  have hwr := words_rest hL hi h1 h2
  have hQ1 := quot_pos hL h1
  have hQB := quot_lt hL h2
  have hRP := Nat.mod_lt n (show 0 < bs x ^ (i + 1) by have := hL.pow i; omega)
  obtain ⟨P, hP⟩ : ∃ P, bs x ^ (i + 1) = P := ⟨_, rfl⟩
  have hbs := hL.b
  have hP1 := pow_bounds hbs (show i + 1 ≤ 3 by omega)
  have hbase : x.base = (bs x : Int) := by unfold bs; rcases hL.ok.base with h | h <;> rw [h] <;> rfl
  have hbr : 10 ≤ x.base ∧ x.base ≤ 20 := by omega
  have hbP : bs x ≤ P := by rw [← hP]; have := pow_le hbs (show 1 ≤ i + 1 by omega); rwa [Nat.pow_one] at this
  have hnb : ¬ (n : Int) < x.base := by rw [hbase]; rw [hP] at h1; omega
  have HNX := Lib.hid (show ∀ j PP, j ≤ i → PW x j PP → ∃ P2, PW x (j + 1) P2 ∧ (PP : Int) * x.base = (P2 : Int) ∧ 10 ≤ PP ∧ PP ≤ 8000 ∧ P2 ≤ 160000 ∧ (j < i → (P2 : Int) ≤ (n : Int)) ∧ (j = i → ¬ (P2 : Int) ≤ (n : Int)) by
    intro j PP hj hPP
    unfold PW at hPP
    have hb8 := (pow_bounds hbs (show j + 1 ≤ 3 by omega)).2
    have hm : PP * bs x = bs x ^ (j + 1 + 1) := by rw [hPP, ← Nat.pow_succ]
    refine ⟨bs x ^ (j + 1 + 1), rfl, by rw [hbase, ← hm]; simp, by rw [hPP]; exact hL.pow j, by omega, ?_, fun hlt => ?_, fun e => ?_⟩
    · rw [← hm]; have := Nat.mul_le_mul (show PP ≤ 8000 by omega) (show bs x ≤ 20 by omega); omega
    · have := pow_le hbs (show j + 1 + 1 ≤ i + 1 by omega); omega
    · subst e; omega)
  have HPI := Lib.hid (show ∀ PP, PW x i PP → PP = P from fun PP h => by unfold PW at h; omega)
  have HB0 := Lib.hid (show PW x 0 (bs x) by unfold PW; simp)
  have HBI := Lib.hid (show x.base = ((bs x : Nat) : Int) from hbase)
  have hsub0 := hL.ok.sub0
  have hsl := sub_lt hL
  rw [hP] at hws hwr hm hr hQ1 hQB hRP hP1
  have hq2 : (n : Int).tdiv (P : Int) = ((n / P : Nat) : Int) := by rw [Int.tdiv_eq_ediv_of_nonneg (by omega)]; simp
  have hr2 : (n : Int).tmod (P : Int) = ((n % P : Nat) : Int) := by rw [Int.tmod_eq_emod_of_nonneg (by omega)]; simp
  have hpz : ¬ (P : Int) = 0 := by omega
  generalize hQ : n / P = Q at *
  generalize hRR : n % P = R at *
  have hQB2 : (Q : Int) < x.base := by rw [hbase]; omega
  obtain ⟨SB, hSB⟩ : ∃ SB, decide (0 < x.sub ∧ P ≤ R + x.sub.toNat ∧ Q + 1 < bs x) = SB := ⟨_, rfl⟩
  have HSB := Lib.hid (show SB = true → 0 < x.sub ∧ (P : Int) - x.sub ≤ (R : Int) ∧ (Q : Int) + 1 < x.base from fun h => by
    rw [h, decide_eq_true_eq] at hSB
    rw [hbase]
    omega)
  have HSN := Lib.hid (show SB = false → ¬ (0 < x.sub) ∨ (0 < x.sub ∧ ¬ (P : Int) - x.sub ≤ (R : Int)) ∨ (0 < x.sub ∧ (P : Int) - x.sub ≤ (R : Int) ∧ ¬ (Q : Int) + 1 < x.base) from fun h => by
    rw [h, decide_eq_false_iff_not] at hSB
    rw [hbase]
    omega)
  have HS1 := Lib.hid (show SB = true → P - R < bs x ∧ RW x (P - R) ∧ RW x ((Q + 1) * P) ∧ wordsB x n = wordsB x (P - R) ++ ([x.le] ++ wordsB x ((Q + 1) * P)) ∧ (Q + 1) * P ≤ 160000 from fun h => by
    rw [h, decide_eq_true_eq] at hSB
    refine ⟨by omega, hd _ (by omega), hm hSB, hws hSB, ?_⟩
    have := Nat.mul_le_mul (show Q + 1 ≤ 20 by omega) hP1.2
    omega)
  have HS2 := Lib.hid (show SB = false → wordsB x n = if R = 0 then headR x Q i else if x.sf then wordsB x R ++ (joL x ++ headR x Q i) else headR x Q i ++ (joL x ++ wordsB x R) from fun h => by
    rw [h, decide_eq_false_iff_not] at hSB
    exact hwr hSB)
  have HDQ := Lib.hid (hd Q hQB)
  have HRR := Lib.hid hr
  obtain ⟨pb, po, pw, hpa, hpw, gp⟩ := hw.rp.at_ (show i < x.pn by have := hL.ok.pn; omega)
  have HPG := Lib.hid (show x.ps.getD i ByteArray.empty = pw by simp [List.getD, hpw])
  have hixi : (i : Int) < (x.pn : Int) := by have := hL.ok.pn; omega
  have hpm := hw.rp.le
  have hpc := hw.rp.cmax
  have AL : Aft w (w.alloc (.cells (nC x) 24)) := (Aft.refl w).alloc _
  have HW := Lib.hid (hw.aft AL)
  have HBX := Lib.hid (Bx.new w x 24)
  have HGP := Lib.hid (AL.cell gp)
  have HPA := Lib.hid hpa
  have HA := Lib.hid AL
  have hej := empty_iff x.jo
  obtain ⟨c0, c1, c2, c3, c4, c5, c6, c7⟩ := Bx.new w x 24
  have HQQ := Lib.hid hQ
  have HR3 := Lib.hid hRR
  have HBS := Lib.hid hbP
  clear hbase hP hbs h1 h2 hws hwr hd hm hr hQ hRR hSB hw gp hpw hpa AL hL hbP hQB
  go_enter Tryd.func24, Tryd.ntmps24
  go_upto_block 0 with fail
  go_cut [5, 6] from 23 to 38 (fun p k wx => p = .int .i64 (P : Int) ∧ k = .int .i64 (i : Int) ∧ wx = (w.alloc (.cells (nC x) 24)))
  case first =>
    go_wp2
    go_loopw [5, 6] (fun p k wr => ∃ j PP : Nat, j ≤ i ∧ k = .int .i64 (j : Nat) ∧ p = .int .i64 (PP : Nat) ∧ PW x j PP ∧ (w.alloc (.cells (nC x) 24)) = wr) (fun _ k _ => i - (intOf k).toNat)
    case atStart => exact ⟨0, bs x, Nat.zero_le _, rfl, by rw [HBI.out], HB0.out, rfl⟩
    case round =>
      obtain ⟨j, PP, hj, rfl, rfl, hPP, rfl⟩ := hrel
      obtain ⟨P2, hP2, hmul, hl10, hl8, hl16, hlt1, hlt2⟩ := HNX.out j PP hj hPP
      have H2 := Lib.hid hP2
      have HPP := Lib.hid hPP
      have HLT1 := Lib.hid hlt1
      have HLT2 := Lib.hid hlt2
      clear hP2 hPP hlt1 hlt2
      by_cases hji : j < i
      · have hle := HLT1.out hji
        have hj2 : (j : Int) < 2 := by omega
        go_wp2
        go_roundw
        case rel => exact ⟨j + 1, P2, by omega, by go_num, by first | rfl | go_num, H2.out, trivial⟩
        case measure => simp [intOf]; omega
      · obtain rfl : j = i := by omega
        obtain rfl : PP = P := HPI.out PP HPP.out
        have hle := HLT2.out rfl
        by_cases hj2 : (j : Int) < 2
        · go_wp2
          go_meet
          exact ⟨rfl, rfl, rfl⟩
        · go_wp2
          go_meet
          exact ⟨rfl, rfl, rfl⟩
  case rest =>
    obtain ⟨rfl, rfl, rfl⟩ := hcut
    go_wp2
    go_quiet (fail)
    go_upto_region 7 with fail
    go_cut [62] from 45 to 62 (fun c wx => c = .bool SB ∧ Aft (w.alloc (.cells (nC x) 24)) wx)
    case first =>
      cases SB
      · rcases HSN.out rfl with hx | ⟨hx, hy⟩ | ⟨hx, hy, hz⟩
        · go_wp2
          go_meet
          exact ⟨rfl, Aft.drewN (Aft.refl _) _⟩
        · go_wp2
          go_meet
          exact ⟨rfl, Aft.drewN (Aft.refl _) _⟩
        · have HZ := Lib.hid hz
          go_wp2
          go_meet
          exact ⟨congrArg Value.bool (decide_eq_false (by have := HZ.out; omega)), Aft.drewN (Aft.refl _) _⟩
      · obtain ⟨hx, hy, hz⟩ := HSB.out rfl
        go_wp2
        go_meet
        exact ⟨rfl, Aft.drewN (Aft.refl _) _⟩
    case rest =>
      obtain ⟨rfl, hA⟩ := hcut
      have HA1 := Lib.hid hA
      clear hA c0 c1 c2 c3 c4 c5 c6 c7
      have HBY := Lib.hid (HBX.out.aft HA1.out)
      have HWY := Lib.hid (HW.out.aft HA1.out)
      have hgpw := HA1.out.cell HGP.out
      cases SB
      · have HV := Lib.hid (HS2.out rfl)
        clear HSB HSN HS1 HS2
        obtain ⟨w1, hw1⟩ : ∃ w1, w1 = wc := ⟨_, rfl⟩
        subst hw1
        have AW : Aft w1 (w1.alloc (.cells #[.string pw] 9)) := (Aft.refl _).alloc _
        have HROW := Lib.hid (show Rw sV (w1.alloc (.cells #[.string pw] 9)) (some ⟨w1.heap.size, 0, none⟩) 1 1 [pw] from row1 (by simp))
        have c2' : w1.cell? ⟨w.heap.size, 2, none⟩ = some (.slice (some ⟨pb, po, none⟩) x.pn x.pc) := by rw [← HPA.out]; exact HBY.out.c2
        obtain ⟨HB, hHB⟩ : ∃ HB, (!decide (Q = 1) || !x.om) = HB := ⟨_, rfl⟩
        have HHB := Lib.hid hHB
        have HV2 := Lib.hid (show headR x Q i = if HB then wordsB x Q ++ [pw] else [pw] by
          unfold headR
          rw [← hHB, HPG.out]
          by_cases hq1 : Q = 1
          · cases hom : x.om
            · rw [if_pos (.inr rfl)]; simp
            · rw [if_neg (by simp; exact hq1)]; simp [hq1]
          · rw [if_pos (.inl hq1)]; simp [hq1])
        clear hHB
        go_upto_region 10 with fail
        clear c2'
        go_cut [91] from 85 to 91 (fun c wx => c = .bool HB ∧ wx = (w1.alloc (.cells #[.string pw] 9)))
        case first =>
          by_cases hq1 : Q = 1
          · have hqi : (Q : Int) = 1 := by omega
            have hqb : ((Q : Int) == 1) = true := by simp [hqi]
            have hqn : ((Q : Int) != 1) = false := by simp [hqi]
            have HE := Lib.hid (show HB = !x.om by rw [← HHB.out, decide_eq_true hq1]; rfl)
            clear hqi hq1
            have e7 := AW.cell HBY.out.c7
            go_wp2
            go_meet
            exact ⟨by rw [HE.out], rfl⟩
          · have hqi : ¬ (Q : Int) = 1 := by omega
            have hqb : ((Q : Int) == 1) = false := by first | (simp; done) | (simp; omega)
            have hqn : ((Q : Int) != 1) = true := by first | (simp; done) | (simp; omega)
            have HE := Lib.hid (show HB = true by rw [← HHB.out, decide_eq_false hq1]; rfl)
            clear hq1
            go_wp2
            go_meet
            exact ⟨by rw [HE.out], rfl⟩
        case rest =>
        obtain ⟨rfl, rfl⟩ := hcut
        go_upto_if 91 with fail
        go_cut [9] from 92 to 96 (fun hh wx => ∃ (X : Option Addr) (nx cx : Nat), hh = .slice X nx cx ∧ Rw sV wx X nx cx (headR x Q i) ∧ Aft w1 wx)
        case first =>
          cases HB
          · go_wp2
            go_meet
            exact ⟨_, _, _, rfl, by rw [HV2.out]; exact HROW.out, AW⟩
          · obtain ⟨d0, d1, d2, d3, d4, d5, d6, d7⟩ := HBY.out.aft AW
            go_wp2_with fail
            refine (HDQ.out _ (HWY.out.aft AW)).mono ?_
            rintro e w4 ⟨⟨X4, n4, q4, rfl, r4⟩, N4⟩
            have R4 := Lib.hid r4
            have HL4 := Lib.hid (show n4 ≤ 10 by have h9 := r4.len; have h8 := words_short x Q; omega)
            clear r4 d0 d1 d2 d3 d4 d5 d6 d7
            go_wp2_with fail
            refine (join_any X4 n4 q4 (wordsB x Q) (some ⟨w1.heap.size, 0, none⟩) 1 1 [pw] _ R4.out (HROW.out.aft N4) (by have h9 := HL4.out; omega)).mono ?_
            rintro e w5 ⟨⟨X5, n5, q5, rfl, r5⟩, N5⟩
            have R5 := Lib.hid r5
            clear r5
            go_wp2
            go_meet
            exact ⟨_, _, _, rfl, by rw [HV2.out]; exact R5.out, AW.trans (N4.trans N5)⟩
        case rest =>
          obtain ⟨Xh, nh, qh, rfl, hrh, hA⟩ := hcut
          have RH := Lib.hid hrh
          have HA2 := Lib.hid hA
          have HLh := Lib.hid (show nh ≤ 11 by
            have h9 := hrh.len
            have h8 := words_short x Q
            unfold headR at h9
            rw [List.length_append] at h9
            split at h9 <;> simp at h9 <;> omega)
          clear hrh hA
          by_cases hR0 : R = 0
          · subst hR0
            have HV3 := Lib.hid (show wordsB x n = headR x Q i by rw [HV.out, if_pos rfl])
            go_wp2
            go_ret
            exact ⟨⟨_, _, _, rfl, by rw [HV3.out]; exact RH.out⟩, HA.out.trans (HA1.out.trans HA2.out)⟩
          · have hRi : ¬ (R : Int) = 0 := by omega
            have hRb : ((R : Int) == 0) = false := by first | (simp; done) | (simp; omega)
            have HV3 := Lib.hid (show wordsB x n = if x.sf then wordsB x R ++ (joL x ++ headR x Q i) else headR x Q i ++ (joL x ++ wordsB x R) by rw [HV.out, if_neg hR0])
            have HRW := Lib.hid (HRR.out hR0)
            have HLR := Lib.hid (words_short x R)
            clear hR0
            obtain ⟨w2, hw2⟩ : ∃ w2, w2 = wc := ⟨_, rfl⟩
            subst hw2
            have HBZ := Lib.hid (HBY.out.aft HA2.out)
            have HWZ := Lib.hid (HWY.out.aft HA2.out)
            have e4 := HBZ.out.c4
            have AW2 : Aft w2 (w2.alloc (.cells #[] 9)) := (Aft.refl _).alloc _
            have f4 := AW2.cell HBZ.out.c4
            obtain ⟨NJ, hNJ⟩ : ∃ NJ, (!decide (x.jo.size = 0)) = NJ := ⟨_, rfl⟩
            have HNJ := Lib.hid hNJ
            have HJL := Lib.hid (show joL x = if NJ then [x.jo] else [] by
              unfold joL
              rw [← hNJ]
              by_cases hj : x.jo.size = 0
              · rw [if_pos hj, decide_eq_true hj]; rfl
              · rw [if_neg hj, decide_eq_false hj]; rfl)
            clear hNJ
            go_upto_region 15 with fail
            go_cut [103] from 101 to 103 (fun c wx => c = .bool NJ ∧ wx = (w2.alloc (.cells #[] 9)))
            case first =>
              by_cases hj : x.jo.size = 0
              · rw [decide_eq_true hj] at hej
                have HE := Lib.hid (show NJ = false by rw [← HNJ.out, decide_eq_true hj]; rfl)
                clear hj
                go_wp2
                go_meet
                exact ⟨by rw [HE.out], rfl⟩
              · rw [decide_eq_false hj] at hej
                have HE := Lib.hid (show NJ = true by rw [← HNJ.out, decide_eq_false hj]; rfl)
                clear hj
                go_wp2
                go_meet
                exact ⟨by rw [HE.out], rfl⟩
            case rest =>
            obtain ⟨rfl, rfl⟩ := hcut
            go_upto_if 103 with fail
            go_cut [10] from 104 to 106 (fun jj wx => ∃ (X : Option Addr) (nx cx : Nat), jj = .slice X nx cx ∧ Rw sV wx X nx cx (joL x) ∧ nx ≤ 1 ∧ Aft w2 wx)
            case first =>
              cases NJ
              · go_wp2
                go_meet
                exact ⟨_, _, _, rfl, by rw [HJL.out]; exact Rw.empty _, by omega, AW2⟩
              · go_wp2
                go_meet
                exact ⟨_, _, _, rfl, by rw [HJL.out]; exact row1 (by simp), by omega, AW2.alloc _⟩
            case rest =>
              obtain ⟨Xo, no, qo, rfl, hro, hno, hA⟩ := hcut
              have RO := Lib.hid hro
              have HA3 := Lib.hid hA
              clear hro hA
              obtain ⟨w3, hw3⟩ : ∃ w3, w3 = wc := ⟨_, rfl⟩
              subst hw3
              have HB3 := Lib.hid (HBZ.out.aft HA3.out)
              have HW3 := Lib.hid (HWZ.out.aft HA3.out)
              have RH3 := Lib.hid (RH.out.aft HA3.out)
              cases hsf : x.sf
              · have HV4 := Lib.hid (show wordsB x n = headR x Q i ++ (joL x ++ wordsB x R) by rw [HV3.out, hsf, if_neg (by simp)])
                have e3 : w3.cell? ⟨w.heap.size, 3, none⟩ = some (.bool false) := by rw [← hsf]; exact HB3.out.c3
                clear hsf
                go_upto_region 19 with fail
                clear e3
                have HSX := Lib.hid (show ∀ w', Aft w3 w' → (fun w' => Aft w3 w' ∧ w'.cell? ⟨w.heap.size, 0, none⟩ = some (.int .i64 x.base) ∧ w'.cell? ⟨w.heap.size, 1, none⟩ = some (.slice x.da x.dn x.dc) ∧ w'.cell? ⟨w.heap.size, 2, none⟩ = some (.slice x.pa x.pn x.pc) ∧ w'.cell? ⟨w.heap.size, 3, none⟩ = some (.bool x.sf) ∧ w'.cell? ⟨w.heap.size, 4, none⟩ = some (.string x.jo) ∧ w'.cell? ⟨w.heap.size, 5, none⟩ = some (.int .i64 x.sub) ∧ w'.cell? ⟨w.heap.size, 6, none⟩ = some (.string x.le) ∧ w'.cell? ⟨w.heap.size, 7, none⟩ = some (.bool x.om)) w' from fun w' a => ⟨a, (HB3.out.aft a).c0, (HB3.out.aft a).c1, (HB3.out.aft a).c2, (HB3.out.aft a).c3, (HB3.out.aft a).c4, (HB3.out.aft a).c5, (HB3.out.aft a).c6, (HB3.out.aft a).c7⟩)
                refine wp_region_held_drew (S := fun w' => Aft w3 w' ∧ w'.cell? ⟨w.heap.size, 0, none⟩ = some (.int .i64 x.base) ∧ w'.cell? ⟨w.heap.size, 1, none⟩ = some (.slice x.da x.dn x.dc) ∧ w'.cell? ⟨w.heap.size, 2, none⟩ = some (.slice x.pa x.pn x.pc) ∧ w'.cell? ⟨w.heap.size, 3, none⟩ = some (.bool x.sf) ∧ w'.cell? ⟨w.heap.size, 4, none⟩ = some (.string x.jo) ∧ w'.cell? ⟨w.heap.size, 5, none⟩ = some (.int .i64 x.sub) ∧ w'.cell? ⟨w.heap.size, 6, none⟩ = some (.string x.le) ∧ w'.cell? ⟨w.heap.size, 7, none⟩ = some (.bool x.om)) (by kernel_rfl) (HSX.out _ (by first | exact Aft.refl _ | exact Below.drew (Aft.refl _) | exact (Aft.refl _).drewN _)) (fun hHeld => ?_)
                refine take_on (i := 0) (v := ?v9032) rfl (by kernel_rfl) (by kernel_rfl) (by kernel_rfl) (fun _ _ _ h => h) (by rfl) (by assumption) ?y9032 ?_
                case y9032 => (intro w hSw; (try dsimp only at hSw); go_simp; (try with_reducible rfl))
                try simp only [Act.put, List.setIfInBounds_toArray, List.set_cons_zero, List.set_cons_succ]
                refine take_on (i := 1) (v := ?v9033) rfl (by kernel_rfl) (by kernel_rfl) (by kernel_rfl) (fun _ _ _ h => h) (by rfl) (by assumption) ?y9033 ?_
                case y9033 => (intro w hSw; (try dsimp only at hSw); go_simp; (try with_reducible rfl))
                try simp only [Act.put, List.setIfInBounds_toArray, List.set_cons_zero, List.set_cons_succ]
                refine take_on (i := 3) (v := ?v9034) rfl (by kernel_rfl) (by kernel_rfl) (by kernel_rfl) (fun _ _ _ h => h) (by rfl) (by assumption) ?y9034 ?_
                case y9034 => (intro w hSw; (try dsimp only at hSw); go_simp; (try with_reducible rfl))
                try simp only [Act.put, List.setIfInBounds_toArray, List.set_cons_zero, List.set_cons_succ]
                refine take_on (i := 4) (v := ?v9035) rfl (by kernel_rfl) (by kernel_rfl) (by kernel_rfl) (fun _ _ _ h => h) (by rfl) (by assumption) ?y9035 ?_
                case y9035 => (intro w hSw; (try dsimp only at hSw); go_simp; (try with_reducible rfl))
                try simp only [Act.put, List.setIfInBounds_toArray, List.set_cons_zero, List.set_cons_succ]
                refine one_ready (i := 2) rfl (by kernel_rfl) (by rfl) (fun K hK => ?_)
                have hA9037 := Lib.hid hHeld.1
                go_simp
                go_at_call 45
                refine (join_any Xh nh qh (headR x Q i) Xo no qo (joL x) _ (RH3.out.aft (by first | exact hA9037.out | exact Below.drew hA9037.out)) (RO.out.aft (by first | exact hA9037.out | exact Below.drew hA9037.out)) (by have h9 := HLh.out; omega)).mono ?_
                rintro e' w9037 ⟨⟨Xj, nj, qj, rfl, rj⟩, M9037⟩
                have C9037 := Lib.hid (show Aft w3 w9037 from Aft.trans (by first | exact hA9037.out | exact Below.drew hA9037.out) M9037)
                have Rj := Lib.hid rj
                have HLj := Lib.hid (show nj ≤ 12 by have h9 := rj.len; rw [List.length_append] at h9; have h8 := HLh.out; have h7 := RO.out.len; have h6 := RH3.out.len; omega)
                clear rj
                try go_simp
                refine hK.out _ _ (HSX.out _ C9037.out) (fun hHeld => ?_)
                clear hK K
                try simp only [Act.put, List.setIfInBounds_toArray, List.set_cons_zero, List.set_cons_succ]
                refine one_ready (i := 5) rfl (by kernel_rfl) (by rfl) (fun K hK => ?_)
                have hA9039 := Lib.hid hHeld.1
                go_simp
                go_at_call 24
                refine (HRW.out _ (HW3.out.aft (by first | exact hA9039.out | exact Below.drew hA9039.out))).mono ?_
                rintro e' w9039 ⟨⟨Xm, nm, qm, rfl, rm⟩, M9039⟩
                have C9039 := Lib.hid (show Aft w3 w9039 from Aft.trans (by first | exact hA9039.out | exact Below.drew hA9039.out) M9039)
                have Rm := Lib.hid rm
                have HLm := Lib.hid (show nm ≤ 10 by have h9 := rm.len; have h8 := HLR.out; omega)
                have Rk := Lib.hid (Rj.out.aft M9039)
                clear rm
                try go_simp
                refine hK.out _ _ (HSX.out _ C9039.out) (fun hHeld => ?_)
                clear hK K
                try simp only [Act.put, List.setIfInBounds_toArray, List.set_cons_zero, List.set_cons_succ]
                refine one_ready (i := 6) rfl (by kernel_rfl) (by rfl) (fun K hK => ?_)
                have hA9041 := Lib.hid hHeld.1
                go_simp
                go_at_call 45
                refine (join_any Xj nj qj _ Xm nm qm _ _ (by first | exact Rk.out | exact Rk.out.aft (Below.drew (Aft.refl _))) (by first | exact Rm.out | exact Rm.out.aft (Below.drew (Aft.refl _))) (by have h9 := HLj.out; have h8 := HLm.out; omega)).mono ?_
                rintro e' w9041 ⟨⟨Xz, nz, qz, rfl, rz⟩, M9041⟩
                have C9041 := Lib.hid (show Aft w3 w9041 from Aft.trans (by first | exact hA9041.out | exact Below.drew hA9041.out) M9041)
                have Rz := Lib.hid rz
                clear rz
                try go_simp
                refine hK.out _ _ (HSX.out _ C9041.out) (fun hHeld => ?_)
                clear hK K
                try simp only [Act.put, List.setIfInBounds_toArray, List.set_cons_zero, List.set_cons_succ]
                refine take_on (i := 7) (v := ?v9042) rfl (by kernel_rfl) (by kernel_rfl) (by kernel_rfl) (fun _ _ _ h => h) (by rfl) (by assumption) ?y9042 ?_
                case y9042 => (intro w hSw; (try dsimp only at hSw); go_simp; (try with_reducible rfl))
                try simp only [Act.put, List.setIfInBounds_toArray, List.set_cons_zero, List.set_cons_succ]
                refine wpAnyH_done (by kernel_rfl) ?_ _
                go_wp2
                go_ret
                exact ⟨⟨Xz, nz, qz, rfl, by rw [HV4.out, ← List.append_assoc]; exact Rz.out⟩, HA.out.trans (HA1.out.trans (HA2.out.trans (HA3.out.trans hHeld.1)))⟩
              · have HV4 := Lib.hid (show wordsB x n = wordsB x R ++ (joL x ++ headR x Q i) by rw [HV3.out, hsf, if_pos rfl])
                have e3 : w3.cell? ⟨w.heap.size, 3, none⟩ = some (.bool true) := by rw [← hsf]; exact HB3.out.c3
                clear hsf
                go_upto_region 18 with fail
                clear e3
                obtain ⟨d0, d1, d2, d3, d4, d5, d6, d7⟩ := HB3.out
                go_wp2_with fail
                refine (HRW.out _ HW3.out).mono ?_
                rintro e w4 ⟨⟨X4, n4, q4, rfl, r4⟩, N4⟩
                have R4 := Lib.hid r4
                have HL4 := Lib.hid (show n4 ≤ 10 by have h9 := r4.len; have h8 := HLR.out; omega)
                clear r4 d0 d1 d2 d3 d4 d5 d6 d7
                go_wp2_with fail
                refine (join_any X4 n4 q4 (wordsB x R) Xo no qo (joL x) _ R4.out (RO.out.aft N4) (by have h9 := HL4.out; omega)).mono ?_
                rintro e w5 ⟨⟨X5, n5, q5, rfl, r5⟩, N5⟩
                have R5 := Lib.hid r5
                have HL5 := Lib.hid (show n5 ≤ 11 by have h9 := r5.len; rw [List.length_append] at h9; have h8 := HLR.out; have h7 := RO.out.len; omega)
                clear r5
                go_wp2_with fail
                refine (join_any X5 n5 q5 _ Xh nh qh (headR x Q i) _ R5.out (RH3.out.aft (N4.trans N5)) (by have h9 := HL5.out; have h8 := HLh.out; omega)).mono ?_
                rintro e w6 ⟨⟨X6, n6, q6, rfl, r6⟩, N6⟩
                have R6 := Lib.hid r6
                clear r6
                go_wp2
                go_ret
                exact ⟨⟨_, _, _, rfl, by rw [HV4.out, ← List.append_assoc]; exact R6.out⟩, HA.out.trans (HA1.out.trans (HA2.out.trans (HA3.out.trans ((N4.trans N5).trans N6))))⟩
      · obtain ⟨hpr, hr1, hr2', hv, hmb⟩ := HS1.out rfl
        have HV := Lib.hid hv
        have HR1 := Lib.hid hr1
        have HR2 := Lib.hid hr2'
        have hpri : (P : Int) - (R : Int) = ((P - R : Nat) : Int) := by omega
        have hmul : ((Q : Int) + 1) * (P : Int) = (((Q + 1) * P : Nat) : Int) := by simp
        have HL1 := Lib.hid (words_short x (P - R))
        have HL2 := Lib.hid (words_short x ((Q + 1) * P))
        clear hv hr1 hr2' HSB HSN HS1 HS2
        generalize (Q + 1) * P = N2 at *
        generalize hD : P - R = D at *
        have hwD : IntKind.i64.wrap (D : Int) = (D : Int) := wrap_small _ (by omega) (by omega)
        have hwN : IntKind.i64.wrap (N2 : Int) = (N2 : Int) := wrap_small _ (by omega) (by omega)
        have hw1 : IntKind.i64.wrap ((Q : Int) + 1) = (Q : Int) + 1 := wrap_small _ (by omega) (by omega)
        clear hD
        go_wp2
        have HSX := Lib.hid (show ∀ w', Aft wc w' → (fun w' => Aft wc w' ∧ w'.cell? ⟨w.heap.size, 0, none⟩ = some (.int .i64 x.base) ∧ w'.cell? ⟨w.heap.size, 1, none⟩ = some (.slice x.da x.dn x.dc) ∧ w'.cell? ⟨w.heap.size, 2, none⟩ = some (.slice x.pa x.pn x.pc) ∧ w'.cell? ⟨w.heap.size, 3, none⟩ = some (.bool x.sf) ∧ w'.cell? ⟨w.heap.size, 4, none⟩ = some (.string x.jo) ∧ w'.cell? ⟨w.heap.size, 5, none⟩ = some (.int .i64 x.sub) ∧ w'.cell? ⟨w.heap.size, 6, none⟩ = some (.string x.le) ∧ w'.cell? ⟨w.heap.size, 7, none⟩ = some (.bool x.om)) w' from fun w' a => ⟨a, (HBY.out.aft a).c0, (HBY.out.aft a).c1, (HBY.out.aft a).c2, (HBY.out.aft a).c3, (HBY.out.aft a).c4, (HBY.out.aft a).c5, (HBY.out.aft a).c6, (HBY.out.aft a).c7⟩)
        refine wp_region_held_drew (S := fun w' => Aft wc w' ∧ w'.cell? ⟨w.heap.size, 0, none⟩ = some (.int .i64 x.base) ∧ w'.cell? ⟨w.heap.size, 1, none⟩ = some (.slice x.da x.dn x.dc) ∧ w'.cell? ⟨w.heap.size, 2, none⟩ = some (.slice x.pa x.pn x.pc) ∧ w'.cell? ⟨w.heap.size, 3, none⟩ = some (.bool x.sf) ∧ w'.cell? ⟨w.heap.size, 4, none⟩ = some (.string x.jo) ∧ w'.cell? ⟨w.heap.size, 5, none⟩ = some (.int .i64 x.sub) ∧ w'.cell? ⟨w.heap.size, 6, none⟩ = some (.string x.le) ∧ w'.cell? ⟨w.heap.size, 7, none⟩ = some (.bool x.om)) (by kernel_rfl) (HSX.out _ (by first | exact Aft.refl _ | exact Below.drew (Aft.refl _) | exact (Aft.refl _).drewN _)) (fun hHeld => ?_)
        refine take_on (i := 0) (v := ?v9001) rfl (by kernel_rfl) (by kernel_rfl) (by kernel_rfl) (fun _ _ _ h => h) (by rfl) (by assumption) ?y9001 ?_
        case y9001 => (intro w hSw; (try dsimp only at hSw); go_simp; (try with_reducible rfl))
        try simp only [Act.put, List.setIfInBounds_toArray, List.set_cons_zero, List.set_cons_succ]
        refine take_on (i := 1) (v := ?v9002) rfl (by kernel_rfl) (by kernel_rfl) (by kernel_rfl) (fun _ _ _ h => h) (by rfl) (by assumption) ?y9002 ?_
        case y9002 => (intro w hSw; (try dsimp only at hSw); go_simp; (try with_reducible rfl))
        try simp only [Act.put, List.setIfInBounds_toArray, List.set_cons_zero, List.set_cons_succ]
        refine take_on (i := 2) (v := ?v9003) rfl (by kernel_rfl) (by kernel_rfl) (by kernel_rfl) (fun _ _ _ h => h) (by rfl) (by assumption) ?y9003 ?_
        case y9003 => (intro w hSw; (try dsimp only at hSw); go_simp; (try with_reducible rfl))
        try simp only [Act.put, List.setIfInBounds_toArray, List.set_cons_zero, List.set_cons_succ]
        refine take_on (i := 3) (v := ?v9004) rfl (by kernel_rfl) (by kernel_rfl) (by kernel_rfl) (fun _ _ _ h => h) (by rfl) (by assumption) ?y9004 ?_
        case y9004 => (intro w hSw; (try dsimp only at hSw); go_simp; (try with_reducible rfl))
        try simp only [Act.put, List.setIfInBounds_toArray, List.set_cons_zero, List.set_cons_succ]
        refine take_on (i := 5) (v := ?v9005) rfl (by kernel_rfl) (by kernel_rfl) (by kernel_rfl) (fun _ _ _ h => h) (by rfl) (by assumption) ?y9005 ?_
        case y9005 => (intro w hSw; (try dsimp only at hSw); go_simp; (try with_reducible rfl))
        try simp only [Act.put, List.setIfInBounds_toArray, List.set_cons_zero, List.set_cons_succ]
        refine take_on (i := 6) (v := ?v9006) rfl (by kernel_rfl) (by kernel_rfl) (by kernel_rfl) (fun _ _ _ h => h) (by rfl) (by assumption) ?y9006 ?_
        case y9006 => (intro w hSw; (try dsimp only at hSw); go_simp; (try with_reducible rfl))
        try simp only [Act.put, List.setIfInBounds_toArray, List.set_cons_zero, List.set_cons_succ]
        refine take_on (i := 9) (v := ?v9007) rfl (by kernel_rfl) (by kernel_rfl) (by kernel_rfl) (fun _ _ _ h => h) (by rfl) (by assumption) ?y9007 ?_
        case y9007 => (intro w hSw; (try dsimp only at hSw); go_simp; (try with_reducible rfl))
        try simp only [Act.put, List.setIfInBounds_toArray, List.set_cons_zero, List.set_cons_succ]
        refine take_on (i := 10) (v := ?v9008) rfl (by kernel_rfl) (by kernel_rfl) (by kernel_rfl) (fun _ _ _ h => h) (by rfl) (by assumption) ?y9008 ?_
        case y9008 => (intro w hSw; (try dsimp only at hSw); go_simp; (try with_reducible rfl))
        try simp only [Act.put, List.setIfInBounds_toArray, List.set_cons_zero, List.set_cons_succ]
        refine take_on (i := 11) (v := ?v9009) rfl (by kernel_rfl) (by kernel_rfl) (by kernel_rfl) (fun _ _ _ h => h) (by rfl) (by assumption) ?y9009 ?_
        case y9009 => (intro w hSw; (try dsimp only at hSw); go_simp; (try with_reducible rfl))
        try simp only [Act.put, List.setIfInBounds_toArray, List.set_cons_zero, List.set_cons_succ]
        refine take_on (i := 12) (v := ?v9010) rfl (by kernel_rfl) (by kernel_rfl) (by kernel_rfl) (fun _ _ _ h => h) (by rfl) (by assumption) ?y9010 ?_
        case y9010 => (intro w hSw; (try dsimp only at hSw); go_simp; (try with_reducible rfl))
        try simp only [Act.put, List.setIfInBounds_toArray, List.set_cons_zero, List.set_cons_succ]
        refine take_on (i := 13) (v := ?v9011) rfl (by kernel_rfl) (by kernel_rfl) (by kernel_rfl) (fun _ _ _ h => h) (by rfl) (by assumption) ?y9011 ?_
        case y9011 => (intro w hSw; (try dsimp only at hSw); go_simp; (try with_reducible rfl))
        try simp only [Act.put, List.setIfInBounds_toArray, List.set_cons_zero, List.set_cons_succ]
        refine two_readyN (i := 4) (j := 7) rfl rfl (by kernel_rfl) (by rfl) (by rfl) (fun K hK => ?_) (fun K hK => ?_)
        · have hA9012 := Lib.hid hHeld.1
          go_simp
          go_at_call 24
          refine (HR1.out _ (HWY.out.aft (by first | exact hA9012.out | exact Below.drew hA9012.out))).mono ?_
          rintro e' w9012 ⟨⟨Xd, nd, cd, rfl, rd⟩, M9012⟩
          have C9012 := Lib.hid (show Aft wc w9012 from Aft.trans (by first | exact hA9012.out | exact Below.drew hA9012.out) M9012)
          have Rd := Lib.hid rd
          have HLd := Lib.hid (show nd ≤ 10 by have h9 := rd.len; have h8 := HL1.out; omega)
          have Md := M9012
          clear rd
          try go_simp
          refine hK.out _ _ (HSX.out _ C9012.out) (fun hHeld => ?_)
          clear hK K
          try simp only [Act.put, List.setIfInBounds_toArray, List.set_cons_zero, List.set_cons_succ]
          refine one_ready (i := 7) rfl (by kernel_rfl) (by rfl) (fun K hK => ?_)
          have hA9014 := Lib.hid hHeld.1
          go_simp
          refine hK.out _ _ (HSX.out _ (by first | exact Aft.alloc hA9014.out _ | exact Aft.alloc (Below.drew hA9014.out) _)) (fun hHeld => ?_)
          clear hK K
          try simp only [Act.put, List.setIfInBounds_toArray, List.set_cons_zero, List.set_cons_succ]
          refine one_ready (i := 8) rfl (by kernel_rfl) (by rfl) (fun K hK => ?_)
          have hA9016 := Lib.hid hHeld.1
          go_simp
          go_at_call 45
          refine (join_any Xd nd cd (wordsB x D) (some ⟨_, 0, none⟩) 1 1 [x.le] _ (by first | exact Rd.out | exact Rd.out.aft ((Aft.refl _).alloc _) | exact Rd.out.aft (Below.drew ((Aft.refl _).alloc _))) (by first | exact row1 (by first | exact cell1 _ _ _ | exact Aft.cell Md (cell1 _ _ _) | exact Aft.cell (Aft.trans (Below.drew (Aft.refl _)) Md) (cell1 _ _ _))) (by have h9 := HLd.out; have h8 := HL1.out; omega)).mono ?_
          rintro e' w9016 ⟨⟨Xj, nj, cj, rfl, rj⟩, M9016⟩
          have C9016 := Lib.hid (show Aft wc w9016 from Aft.trans (by first | exact hA9016.out | exact Below.drew hA9016.out) M9016)
          have Rj := Lib.hid rj
          have HLj := Lib.hid (show nj ≤ 11 by have h9 := rj.len; rw [List.length_append] at h9; have h8 := HL1.out; simp at h9; omega)
          clear rj
          try go_simp
          refine hK.out _ _ (HSX.out _ C9016.out) (fun hHeld => ?_)
          clear hK K
          try simp only [Act.put, List.setIfInBounds_toArray, List.set_cons_zero, List.set_cons_succ]
          refine one_ready (i := 14) rfl (by kernel_rfl) (by rfl) (fun K hK => ?_)
          have hA9018 := Lib.hid hHeld.1
          go_simp
          go_at_call 24
          refine (HR2.out _ (HWY.out.aft (by first | exact hA9018.out | exact Below.drew hA9018.out))).mono ?_
          rintro e' w9018 ⟨⟨Xm, nm, cm, rfl, rm⟩, M9018⟩
          have C9018 := Lib.hid (show Aft wc w9018 from Aft.trans (by first | exact hA9018.out | exact Below.drew hA9018.out) M9018)
          have Rm := Lib.hid rm
          have HLm := Lib.hid (show nm ≤ 10 by have h9 := rm.len; have h8 := HL2.out; omega)
          have Rk := Lib.hid (Rj.out.aft M9018)
          clear rm
          try go_simp
          refine hK.out _ _ (HSX.out _ C9018.out) (fun hHeld => ?_)
          clear hK K
          try simp only [Act.put, List.setIfInBounds_toArray, List.set_cons_zero, List.set_cons_succ]
          refine one_ready (i := 15) rfl (by kernel_rfl) (by rfl) (fun K hK => ?_)
          have hA9020 := Lib.hid hHeld.1
          go_simp
          go_at_call 45
          refine (join_any Xj nj cj _ Xm nm cm _ _ (by first | exact Rk.out | exact Rk.out.aft (Below.drew (Aft.refl _))) (by first | exact Rm.out | exact Rm.out.aft (Below.drew (Aft.refl _))) (by have h9 := HLj.out; have h8 := HLm.out; omega)).mono ?_
          rintro e' w9020 ⟨⟨Xz, nz, cz, rfl, rz⟩, M9020⟩
          have C9020 := Lib.hid (show Aft wc w9020 from Aft.trans (by first | exact hA9020.out | exact Below.drew hA9020.out) M9020)
          have Rz := Lib.hid rz
          clear rz
          try go_simp
          refine hK.out _ _ (HSX.out _ C9020.out) (fun hHeld => ?_)
          clear hK K
          try simp only [Act.put, List.setIfInBounds_toArray, List.set_cons_zero, List.set_cons_succ]
          refine take_on (i := 16) (v := ?v9021) rfl (by kernel_rfl) (by kernel_rfl) (by kernel_rfl) (fun _ _ _ h => h) (by rfl) (by assumption) ?y9021 ?_
          case y9021 => (intro w hSw; (try dsimp only at hSw); go_simp; (try with_reducible rfl))
          try simp only [Act.put, List.setIfInBounds_toArray, List.set_cons_zero, List.set_cons_succ]
          refine wpAnyH_done (by kernel_rfl) ?_ _
          go_wp2
          go_ret
          exact ⟨⟨Xz, nz, cz, rfl, by rw [HV.out, ← List.append_assoc]; exact Rz.out⟩, HA.out.trans (HA1.out.trans hHeld.1)⟩
        · have hA9022 := Lib.hid hHeld.1
          go_simp
          refine hK.out _ _ (HSX.out _ (by first | exact Aft.alloc hA9022.out _ | exact Aft.alloc (Below.drew hA9022.out) _)) (fun hHeld => ?_)
          clear hK K
          try simp only [Act.put, List.setIfInBounds_toArray, List.set_cons_zero, List.set_cons_succ]
          refine one_ready (i := 4) rfl (by kernel_rfl) (by rfl) (fun K hK => ?_)
          have hA9024 := Lib.hid hHeld.1
          go_simp
          go_at_call 24
          refine (HR1.out _ (HWY.out.aft (by first | exact hA9024.out | exact Below.drew hA9024.out))).mono ?_
          rintro e' w9024 ⟨⟨Xd, nd, cd, rfl, rd⟩, M9024⟩
          have C9024 := Lib.hid (show Aft wc w9024 from Aft.trans (by first | exact hA9024.out | exact Below.drew hA9024.out) M9024)
          have Rd := Lib.hid rd
          have HLd := Lib.hid (show nd ≤ 10 by have h9 := rd.len; have h8 := HL1.out; omega)
          have Md := M9024
          clear rd
          try go_simp
          refine hK.out _ _ (HSX.out _ C9024.out) (fun hHeld => ?_)
          clear hK K
          try simp only [Act.put, List.setIfInBounds_toArray, List.set_cons_zero, List.set_cons_succ]
          refine one_ready (i := 8) rfl (by kernel_rfl) (by rfl) (fun K hK => ?_)
          have hA9026 := Lib.hid hHeld.1
          go_simp
          go_at_call 45
          refine (join_any Xd nd cd (wordsB x D) (some ⟨_, 0, none⟩) 1 1 [x.le] _ (by first | exact Rd.out | exact Rd.out.aft ((Aft.refl _).alloc _) | exact Rd.out.aft (Below.drew ((Aft.refl _).alloc _))) (by first | exact row1 (by first | exact cell1 _ _ _ | exact Aft.cell Md (cell1 _ _ _) | exact Aft.cell (Aft.trans (Below.drew (Aft.refl _)) Md) (cell1 _ _ _))) (by have h9 := HLd.out; have h8 := HL1.out; omega)).mono ?_
          rintro e' w9026 ⟨⟨Xj, nj, cj, rfl, rj⟩, M9026⟩
          have C9026 := Lib.hid (show Aft wc w9026 from Aft.trans (by first | exact hA9026.out | exact Below.drew hA9026.out) M9026)
          have Rj := Lib.hid rj
          have HLj := Lib.hid (show nj ≤ 11 by have h9 := rj.len; rw [List.length_append] at h9; have h8 := HL1.out; simp at h9; omega)
          clear rj
          try go_simp
          refine hK.out _ _ (HSX.out _ C9026.out) (fun hHeld => ?_)
          clear hK K
          try simp only [Act.put, List.setIfInBounds_toArray, List.set_cons_zero, List.set_cons_succ]
          refine one_ready (i := 14) rfl (by kernel_rfl) (by rfl) (fun K hK => ?_)
          have hA9028 := Lib.hid hHeld.1
          go_simp
          go_at_call 24
          refine (HR2.out _ (HWY.out.aft (by first | exact hA9028.out | exact Below.drew hA9028.out))).mono ?_
          rintro e' w9028 ⟨⟨Xm, nm, cm, rfl, rm⟩, M9028⟩
          have C9028 := Lib.hid (show Aft wc w9028 from Aft.trans (by first | exact hA9028.out | exact Below.drew hA9028.out) M9028)
          have Rm := Lib.hid rm
          have HLm := Lib.hid (show nm ≤ 10 by have h9 := rm.len; have h8 := HL2.out; omega)
          have Rk := Lib.hid (Rj.out.aft M9028)
          clear rm
          try go_simp
          refine hK.out _ _ (HSX.out _ C9028.out) (fun hHeld => ?_)
          clear hK K
          try simp only [Act.put, List.setIfInBounds_toArray, List.set_cons_zero, List.set_cons_succ]
          refine one_ready (i := 15) rfl (by kernel_rfl) (by rfl) (fun K hK => ?_)
          have hA9030 := Lib.hid hHeld.1
          go_simp
          go_at_call 45
          refine (join_any Xj nj cj _ Xm nm cm _ _ (by first | exact Rk.out | exact Rk.out.aft (Below.drew (Aft.refl _))) (by first | exact Rm.out | exact Rm.out.aft (Below.drew (Aft.refl _))) (by have h9 := HLj.out; have h8 := HLm.out; omega)).mono ?_
          rintro e' w9030 ⟨⟨Xz, nz, cz, rfl, rz⟩, M9030⟩
          have C9030 := Lib.hid (show Aft wc w9030 from Aft.trans (by first | exact hA9030.out | exact Below.drew hA9030.out) M9030)
          have Rz := Lib.hid rz
          clear rz
          try go_simp
          refine hK.out _ _ (HSX.out _ C9030.out) (fun hHeld => ?_)
          clear hK K
          try simp only [Act.put, List.setIfInBounds_toArray, List.set_cons_zero, List.set_cons_succ]
          refine take_on (i := 16) (v := ?v9031) rfl (by kernel_rfl) (by kernel_rfl) (by kernel_rfl) (fun _ _ _ h => h) (by rfl) (by assumption) ?y9031 ?_
          case y9031 => (intro w hSw; (try dsimp only at hSw); go_simp; (try with_reducible rfl))
          try simp only [Act.put, List.setIfInBounds_toArray, List.set_cons_zero, List.set_cons_succ]
          refine wpAnyH_done (by kernel_rfl) ?_ _
          go_wp2
          go_ret
          exact ⟨⟨Xz, nz, cz, rfl, by rw [HV.out, ← List.append_assoc]; exact Rz.out⟩, HA.out.trans (HA1.out.trans hHeld.1)⟩
theorem rw_mult (x : Nm) (hL : Len x) (q i : Nat) (hi : i < 3) (hq0 : 1 ≤ q) (hq : q < bs x) : RW x (q * bs x ^ (i + 1)) := by
  have hp := hL.pow i
  have hs := sub_lt hL
  have hpb : bs x ≤ bs x ^ (i + 1) := by
    have := pow_le hL.b (show 1 ≤ i + 1 by omega)
    rwa [Nat.pow_one] at this
  have hm : q * bs x ^ (i + 1) % bs x ^ (i + 1) = 0 := Nat.mul_mod_left _ _
  refine rw_gen x hL i _ hi ?_ ?_ (fun m h => rw_dig x hL m h) (fun h => ?_) (fun h => absurd hm h)
  · have := Nat.mul_le_mul_right (bs x ^ (i + 1)) hq0; omega
  · rw [Nat.pow_succ (n := bs x) (m := i + 1), Nat.mul_comm (bs x ^ (i + 1))]
    exact Nat.mul_lt_mul_of_pos_right hq (by omega)
  · rw [hm] at h
    omega
theorem refWords_any (x : Nm) (hL : Len x) : ∀ n, n < bs x ^ 4 → RW x n := by
  intro n
  induction n using Nat.strongRecOn with
  | _ n ih =>
  intro hn
  by_cases hb : n < bs x
  · exact rw_dig x hL n hb
  · obtain ⟨i, hi, h1, h2⟩ := level hL (k := 3) (by omega) hn
    have hp := hL.pow i
    have hr := Nat.mod_lt n (show 0 < bs x ^ (i + 1) by omega)
    refine rw_gen x hL i n hi h1 h2 (fun m h => rw_dig x hL m h) (fun h => rw_mult x hL _ i hi (Nat.succ_le_succ (Nat.zero_le _)) h.2.2) (fun _ => ih _ (by omega) (by omega))
end Go.Proofs.YtdehghmpfkhljaaDoor
