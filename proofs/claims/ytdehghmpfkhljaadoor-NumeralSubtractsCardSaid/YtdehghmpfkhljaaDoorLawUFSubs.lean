/-
  A number just below the next multiple of its greatest power is expressed by what is missing, and that multiple: the law NumeralSubtracts returns true. Conditions: none.
-/
import Derived.Test.YtdehghmpfkhljaaDoorNumFrame
import Derived.Test.YtdehghmpfkhljaaDoorNumLawS
import Derived.Deep.DeepHandedRow
import Derived.Deep.DeepWitnessRowRef
import Derived.Deep.RegionHeld3
import Derived.Deep.CutRange
namespace Go.Proofs.YtdehghmpfkhljaaDoor.lawUFSubs
open Go.ChangeShapes Go.WideShapes Go.ChangeAt Go.RowKit
open Go.ChangeMaps (open_string shut_string)
open NumPlain

set_option maxRecDepth 100000 in
set_option maxHeartbeats 3200000 in
theorem walk (x : Nm) (k1 : Int) (k2 : Int) (k3 : Int) (w : World) (hT : Tabs w) (hw : Nw w x) (hz : Sz x) (_ : (Lit.int .i64 x.base).wf = true) (_ : (Lit.int .i64 x.sub).wf = true) (hk1 : (Lit.int .u8 k1).wf = true) (hk2 : (Lit.int .u8 k2).wf = true) (hk3 : (Lit.int .u8 k3).wf = true) :
    Calls Tryd.prog 8 #[nV x, .int .u8 k1, .int .u8 k2, .int .u8 k3] w (BoolPost w true) := by
  have AL : Aft w (w.alloc (.cells (nC x) 24)) := (Aft.refl w).alloc _
  have HBX := Lib.hid (Bx.new w x 24)
  have HT := Lib.hid (tabs_aft hT AL)
  have HW := Lib.hid (hw.aft AL)
  have HZ := Lib.hid hz
  have HA := Lib.hid AL
  clear hT hw hz AL
  by_cases hsm : x.dn ≤ 40 ∧ x.pn ≤ 10
  · have HSM := Lib.hid (small_yes hsm)
    clear hsm
    cases hv : validB x
    · have HV := Lib.hid hv
      clear hv
      go_enter Tryd.func8, Tryd.ntmps8
      obtain ⟨c0, c1, c2, c3, c4, c5, c6, c7⟩ := HBX.out
      go_wp2_with fail
      have h1 := small_any x (w.alloc (.cells (nC x) 24))
      rw [HSM.out] at h1
      refine h1.mono ?_
      rintro e v1 ⟨rfl, N1⟩
      clear h1
      have D1 := N1
      clear c0 c1 c2 c3 c4 c5 c6 c7
      obtain ⟨c0, c1, c2, c3, c4, c5, c6, c7⟩ := HBX.out.aft D1
      go_wp2_with fail
      have h1 := valid_any x v1 (tabs_aft HT.out D1) (HW.out.aft D1) HZ.out
      rw [HV.out] at h1
      refine h1.mono ?_
      rintro e v2 ⟨rfl, N2⟩
      clear h1
      have D2 := D1.trans N2
      clear c0 c1 c2 c3 c4 c5 c6 c7
      go_wp2_with fail
      have h1 := awake_any v2 (tabs_aft HT.out D2)
      refine h1.mono ?_
      rintro e v3 ⟨rfl, N3⟩
      clear h1
      have D3 := D2.trans N3
      go_wp2
      go_ret
      exact ⟨by first | rfl | simp, HA.out.trans D3⟩
    · have HV := Lib.hid hv
      have hL := len_of HW.out hv
      have HL := Lib.hid hL
      obtain ⟨hs9, hb10, hb20, hbase⟩ := sub_facts hL
      have hs0 := hL.ok.sub0
      have hbs := hL.b
      clear hv
      by_cases hsz : x.sub = 0
      · have hsb : (x.sub == 0) = true := by simp [hsz]
        have HS0 := Lib.hid hsz
        clear hsz hbase hbs hL hs0 hs9
        go_enter Tryd.func8, Tryd.ntmps8
        obtain ⟨c0, c1, c2, c3, c4, c5, c6, c7⟩ := HBX.out
        go_wp2_with fail
        have h1 := small_any x (w.alloc (.cells (nC x) 24))
        rw [HSM.out] at h1
        refine h1.mono ?_
        rintro e v1 ⟨rfl, N1⟩
        clear h1
        have D1 := N1
        clear c0 c1 c2 c3 c4 c5 c6 c7
        obtain ⟨c0, c1, c2, c3, c4, c5, c6, c7⟩ := HBX.out.aft D1
        go_wp2_with fail
        have h1 := valid_any x v1 (tabs_aft HT.out D1) (HW.out.aft D1) HZ.out
        rw [HV.out] at h1
        refine h1.mono ?_
        rintro e v2 ⟨rfl, N2⟩
        clear h1
        have D2 := D1.trans N2
        clear c0 c1 c2 c3 c4 c5 c6 c7
        obtain ⟨c0, c1, c2, c3, c4, c5, c6, c7⟩ := HBX.out.aft D2
        go_wp2_with fail
        have h1 := awake_any v2 (tabs_aft HT.out D2)
        refine h1.mono ?_
        rintro e v3 ⟨rfl, N3⟩
        clear h1
        have D3 := D2.trans N3
        go_wp2
        go_ret
        exact ⟨by first | rfl | simp, HA.out.trans D3⟩
      · have hsb : (x.sub == 0) = false := by simp [hsz]
        have hz1 := wf_range8 hk1
        have hz2 := wf_range8 hk2
        have hz3 := wf_range8 hk3
        obtain ⟨i, hi⟩ : ∃ i : Nat, k1.tmod 3 = (i : Int) := ⟨(k1.tmod 3).toNat, by rw [Int.toNat_of_nonneg]; exact Int.tmod_nonneg _ hz1.1⟩
        have hi3 : i < 3 := by have := Int.tmod_lt_of_pos k1 (show (0 : Int) < 3 by omega); omega
        obtain ⟨D0, hD0⟩ : ∃ D0 : Nat, k3.tmod x.sub = (D0 : Int) := ⟨(k3.tmod x.sub).toNat, by rw [Int.toNat_of_nonneg]; exact Int.tmod_nonneg _ hz3.1⟩
        have hDs : (D0 : Int) < x.sub := by have := Int.tmod_lt_of_pos k3 (show (0 : Int) < x.sub by omega); omega
        obtain ⟨B2, hB2⟩ : ∃ B2 : Nat, x.base - 2 = (B2 : Int) := ⟨(x.base - 2).toNat, by omega⟩
        have hB20 : ¬ (B2 : Int) = 0 := by omega
        have hB2n : ¬ B2 = 0 := by omega
        obtain ⟨K0, hK0⟩ : ∃ K0 : Nat, k2.tmod (B2 : Int) = (K0 : Int) := ⟨(k2.tmod (B2 : Int)).toNat, by rw [Int.toNat_of_nonneg]; exact Int.tmod_nonneg _ hz2.1⟩
        have hKB : (K0 : Int) < (B2 : Int) := by have := Int.tmod_lt_of_pos k2 (show (0 : Int) < (B2 : Int) by omega); omega
        obtain ⟨D, hD⟩ : ∃ D : Nat, D = D0 + 1 := ⟨_, rfl⟩
        obtain ⟨K, hK⟩ : ∃ K : Nat, K = K0 + 1 := ⟨_, rfl⟩
        have hDi : (D0 : Int) + 1 = (D : Int) := by omega
        have hKi : (K0 : Int) + 1 = (K : Int) := by omega
        obtain ⟨K1, hK1⟩ : ∃ K1 : Nat, K1 = K + 1 := ⟨_, rfl⟩
        have hK1i : (K : Int) + 1 = (K1 : Int) := by omega
        obtain ⟨P, hP⟩ : ∃ P, bs x ^ (i + 1) = P := ⟨_, rfl⟩
        have hP8 := (pow_bounds hbs (show i + 1 ≤ 3 by omega)).2
        have hp10 := hL.pow i
        rw [hP] at hP8 hp10
        obtain ⟨KP, hKP⟩ : ∃ KP, K * P = KP := ⟨_, rfl⟩
        obtain ⟨KQ, hKQ⟩ : ∃ KQ, K1 * P = KQ := ⟨_, rfl⟩
        have hmK : (K : Int) * (P : Int) = (KP : Int) := by rw [← hKP]; simp
        have hmQ : (K1 : Int) * (P : Int) = (KQ : Int) := by rw [← hKQ]; simp
        have hKPl : KP ≤ 160000 := by rw [← hKP]; have := Nat.mul_le_mul (show K ≤ 20 by omega) hP8; omega
        have hKQl : KQ ≤ 168000 := by rw [← hKQ]; have := Nat.mul_le_mul (show K1 ≤ 21 by omega) hP8; omega
        have hKQe : KQ = KP + P := by rw [← hKQ, ← hKP, hK1, Nat.add_mul, Nat.one_mul]
        obtain ⟨NN, hNN⟩ : ∃ NN, KP + P - D = NN := ⟨_, rfl⟩
        have hKPP : (KP : Int) + (P : Int) = (KQ : Int) := by omega
        have hNi : (KQ : Int) - (D : Int) = (NN : Int) := by omega
        have HWB := Lib.hid (show wordsB x NN = wordsB x D ++ ([x.le] ++ wordsB x KQ) by
          have h := words_below hL (i := i) (k := K) (d := D) hi3 (by omega) (by omega) (by omega) (by omega)
          rw [hP, hKP, hNN, ← hK1, hKQ] at h
          exact h)
        have HNX := Lib.hid (show ∀ j PP : Nat, PP = bs x ^ (j + 1) → j < i → ∃ P2 : Nat, P2 = bs x ^ (j + 1 + 1) ∧ (PP : Int) * x.base = (P2 : Int) ∧ P2 ≤ 160000 by
          intro j PP hPP hj
          have hb8 := (pow_bounds hbs (show j + 1 ≤ 3 by omega)).2
          have hm : PP * bs x = bs x ^ (j + 1 + 1) := by rw [hPP, ← Nat.pow_succ]
          refine ⟨bs x ^ (j + 1 + 1), rfl, by rw [hbase, ← hm]; simp, ?_⟩
          rw [← hm]; have := Nat.mul_le_mul (show PP ≤ 8000 by omega) (show bs x ≤ 20 by omega); omega)
        have HPI := Lib.hid hP
        have HB0 := Lib.hid (show (x.base = ((bs x : Nat) : Int)) ∧ bs x = bs x ^ (0 + 1) from ⟨hbase, by simp⟩)
        have hD1 : 1 ≤ D ∧ D ≤ 9 := by omega
        have hsn : ¬ x.sub = 0 := hsz
        have hP10 : 10 ≤ P := hp10
        clear hbase hbs hL hP hKP hKQ hNN hD hK hK1 hsz hKQe hp10
        go_enter Tryd.func8, Tryd.ntmps8
        obtain ⟨c0, c1, c2, c3, c4, c5, c6, c7⟩ := HBX.out
        go_wp2_with fail
        have h1 := small_any x (w.alloc (.cells (nC x) 24))
        rw [HSM.out] at h1
        refine h1.mono ?_
        rintro e v1 ⟨rfl, N1⟩
        clear h1
        have D1 := N1
        clear c0 c1 c2 c3 c4 c5 c6 c7
        obtain ⟨c0, c1, c2, c3, c4, c5, c6, c7⟩ := HBX.out.aft D1
        go_wp2_with fail
        have h1 := valid_any x v1 (tabs_aft HT.out D1) (HW.out.aft D1) HZ.out
        rw [HV.out] at h1
        refine h1.mono ?_
        rintro e v2 ⟨rfl, N2⟩
        clear h1
        have D2 := D1.trans N2
        clear c0 c1 c2 c3 c4 c5 c6 c7
        obtain ⟨c0, c1, c2, c3, c4, c5, c6, c7⟩ := HBX.out.aft D2
        go_wp2
        go_loopw [9, 10] (fun p k wr => ∃ j PP : Nat, j ≤ i ∧ k = .int .i64 (j : Nat) ∧ p = .int .i64 (PP : Nat) ∧ PP = bs x ^ (j + 1) ∧ v2 = wr) (fun _ k _ => i - (intOf k).toNat)
        case atStart => exact ⟨0, bs x, Nat.zero_le _, rfl, by rw [HB0.out.1], HB0.out.2, rfl⟩
        case round =>
          obtain ⟨j, PP, hj, rfl, rfl, hPP, rfl⟩ := hrel
          have HPP := Lib.hid hPP
          clear hPP
          by_cases hji : j < i
          · obtain ⟨P2, hP2, hmul, hl16⟩ := HNX.out j PP HPP.out hji
            have H2 := Lib.hid hP2
            have hjl : (j : Int) < (i : Int) := by omega
            clear hP2
            go_wp2
            go_roundw
            case rel => exact ⟨j + 1, P2, by omega, by go_num, by first | rfl | go_num, H2.out, trivial⟩
            case measure => simp [intOf]; omega
          · obtain rfl : j = i := by omega
            obtain rfl : PP = P := by rw [HPP.out]; exact HPI.out
            have hjl : ¬ (j : Int) < (j : Int) := by omega
            by_cases h9 : 9999 < NN
            · have h9i : (9999 : Int) < (NN : Int) := by omega
              go_wp2_with fail
              have h1 := awake_any v2 (tabs_aft HT.out D2)
              refine h1.mono ?_
              rintro e v3 ⟨rfl, N3⟩
              clear h1
              have D3 := D2.trans N3
              go_wp2
              go_ret
              exact ⟨by first | rfl | simp, HA.out.trans D3⟩
            · have h9i : ¬ (9999 : Int) < (NN : Int) := by omega
              have HN := Lib.hid (words_ok HV.out (show NN ≤ 9999 by omega))
              have HDD := Lib.hid (words_ok HV.out (show D ≤ 9999 by omega))
              clear h9
              go_wp2_with fail
              have h1 := words_any x (NN : Int) v2 (tabs_aft HT.out D2) (HW.out.aft D2) HZ.out
              rw [HN.out] at h1
              refine h1.mono ?_
              rintro e v3 ⟨⟨X1, n1, q1, rfl, r1⟩, N3⟩
              clear h1
              have D3 := D2.trans N3
              have R1 := Lib.hid (show Rw sV v3 X1 n1 q1 (wordsB x NN) from r1)
              clear r1
              clear c0 c1 c2 c3 c4 c5 c6 c7
              obtain ⟨c0, c1, c2, c3, c4, c5, c6, c7⟩ := HBX.out.aft D3
              go_wp2_with fail
              have h1 := words_any x (D : Int) v3 (tabs_aft HT.out D3) (HW.out.aft D3) HZ.out
              rw [HDD.out] at h1
              refine h1.mono ?_
              rintro e v4 ⟨⟨X2, n2, q2, rfl, r2⟩, N4⟩
              clear h1
              have D4 := D3.trans N4
              have R2 := Lib.hid (show Rw sV v4 X2 n2 q2 (wordsB x D) from r2)
              clear r2
              clear c0 c1 c2 c3 c4 c5 c6 c7
              by_cases hq9 : KQ ≤ 9999
              · have HQ := Lib.hid (words_ok HV.out hq9)
                have hq9i : ¬ (9999 : Int) < (KQ : Int) := by omega
                obtain ⟨c0, c1, c2, c3, c4, c5, c6, c7⟩ := HBX.out.aft D4
                go_wp2_with fail
                have h1 := words_any x (KQ : Int) v4 (tabs_aft HT.out D4) (HW.out.aft D4) HZ.out
                rw [HQ.out] at h1
                refine h1.mono ?_
                rintro e v5 ⟨⟨X3, n3, q3, rfl, r3⟩, N5⟩
                clear h1
                have D5 := D4.trans N5
                have R3 := Lib.hid (show Rw sV v5 X3 n3 q3 (wordsB x KQ) from r3)
                clear r3
                clear c0 c1 c2 c3 c4 c5 c6 c7
                have RA := Lib.hid (R2.out.aft N5)
                have hl2 : n2 ≤ 10 := by have h8 := words_short0 x D; have h9 := R2.out.len; omega
                have hl3 : n3 ≤ 10 := by have h8 := words_short0 x KQ; have h9 := R3.out.len; omega
                have HBQ := Lib.hid (HBX.out.aft D5)
                obtain ⟨i0, hi0, hz0, hz1', hz2'⟩ := infoS_parts
                go_upto_region 16 with fail
                go_cut [20] from 92 to 100 (fun hh wx => ∃ (X : Option Addr) (nx cx : Nat), hh = .slice X nx cx ∧ Rw sV wx X nx cx (wordsB x D ++ ([x.le] ++ wordsB x KQ)) ∧ Aft v5 wx)
                case first =>
                  have HSX := Lib.hid (show ∀ w', Aft v5 w' → (fun w' => Aft v5 w' ∧ w'.cell? ⟨w.heap.size, 0, none⟩ = some (.int .i64 x.base) ∧ w'.cell? ⟨w.heap.size, 1, none⟩ = some (.slice x.da x.dn x.dc) ∧ w'.cell? ⟨w.heap.size, 2, none⟩ = some (.slice x.pa x.pn x.pc) ∧ w'.cell? ⟨w.heap.size, 3, none⟩ = some (.bool x.sf) ∧ w'.cell? ⟨w.heap.size, 4, none⟩ = some (.string x.jo) ∧ w'.cell? ⟨w.heap.size, 5, none⟩ = some (.int .i64 x.sub) ∧ w'.cell? ⟨w.heap.size, 6, none⟩ = some (.string x.le) ∧ w'.cell? ⟨w.heap.size, 7, none⟩ = some (.bool x.om)) w' from fun w' a => ⟨a, (HBQ.out.aft a).c0, (HBQ.out.aft a).c1, (HBQ.out.aft a).c2, (HBQ.out.aft a).c3, (HBQ.out.aft a).c4, (HBQ.out.aft a).c5, (HBQ.out.aft a).c6, (HBQ.out.aft a).c7⟩)
                  refine wp_region_held_drew (S := fun w' => Aft v5 w' ∧ w'.cell? ⟨w.heap.size, 0, none⟩ = some (.int .i64 x.base) ∧ w'.cell? ⟨w.heap.size, 1, none⟩ = some (.slice x.da x.dn x.dc) ∧ w'.cell? ⟨w.heap.size, 2, none⟩ = some (.slice x.pa x.pn x.pc) ∧ w'.cell? ⟨w.heap.size, 3, none⟩ = some (.bool x.sf) ∧ w'.cell? ⟨w.heap.size, 4, none⟩ = some (.string x.jo) ∧ w'.cell? ⟨w.heap.size, 5, none⟩ = some (.int .i64 x.sub) ∧ w'.cell? ⟨w.heap.size, 6, none⟩ = some (.string x.le) ∧ w'.cell? ⟨w.heap.size, 7, none⟩ = some (.bool x.om)) (by kernel_rfl) (HSX.out _ (by first | exact Aft.refl _ | exact Below.drew (Aft.refl _) | exact (Aft.refl _).drewN _)) (fun hHeld => ?_)
                  refine take_on (i := 1) (v := ?v9154) rfl (by kernel_rfl) (by kernel_rfl) (by kernel_rfl) (fun _ _ _ h => h) (by rfl) (by assumption) ?y9154 ?_
                  case y9154 => (intro w hSw; (try dsimp only at hSw); go_simp; (try with_reducible rfl))
                  try simp only [Act.put, List.setIfInBounds_toArray, List.set_cons_zero, List.set_cons_succ]
                  refine take_on (i := 3) (v := ?v9155) rfl (by kernel_rfl) (by kernel_rfl) (by kernel_rfl) (fun _ _ _ h => h) (by rfl) (by assumption) ?y9155 ?_
                  case y9155 => (intro w hSw; (try dsimp only at hSw); go_simp; (try with_reducible rfl))
                  try simp only [Act.put, List.setIfInBounds_toArray, List.set_cons_zero, List.set_cons_succ]
                  refine take_on (i := 4) (v := ?v9156) rfl (by kernel_rfl) (by kernel_rfl) (by kernel_rfl) (fun _ _ _ h => h) (by rfl) (by assumption) ?y9156 ?_
                  case y9156 => (intro w hSw; (try dsimp only at hSw); go_simp; (try with_reducible rfl))
                  try simp only [Act.put, List.setIfInBounds_toArray, List.set_cons_zero, List.set_cons_succ]
                  refine take_on (i := 7) (v := ?v9157) rfl (by kernel_rfl) (by kernel_rfl) (by kernel_rfl) (fun _ _ _ h => h) (by rfl) (by assumption) ?y9157 ?_
                  case y9157 => (intro w hSw; (try dsimp only at hSw); go_simp; (try with_reducible rfl))
                  try simp only [Act.put, List.setIfInBounds_toArray, List.set_cons_zero, List.set_cons_succ]
                  refine two_readyN (i := 0) (j := 5) rfl rfl (by kernel_rfl) (by rfl) (by rfl) (fun K hK => ?_) (fun K hK => ?_)
                  · have hA9165 := Lib.hid hHeld.1
                    go_simp
                    refine hK.out _ _ (HSX.out _ (by first | exact Aft.alloc hA9165.out _ | exact Aft.alloc (Below.drew hA9165.out) _)) (fun hHeld => ?_)
                    clear hK K
                    try simp only [Act.put, List.setIfInBounds_toArray, List.set_cons_zero, List.set_cons_succ]
                    first | have ho9 := own_weak (own_new hHeld.1) (show v5.heap.size ≤ _ from by first | exact Nat.le_refl _ | (simp; done) | (show _ ≤ (World.alloc _ _).heap.size; simp)) | have ho9 := own_weak (own_newD hHeld.1) (show v5.heap.size ≤ _ from by first | exact Nat.le_refl _ | (simp; done) | (show _ ≤ (World.alloc _ _).heap.size; simp))
                    try simp only [World.size_alloc] at ho9
                    have HO := Lib.hid ho9
                    clear ho9
                    have HOF := Lib.hid (fun W' (a : Aft _ W') => row_aft HO.out a)
                    refine two_readyN (i := 2) (j := 5) rfl rfl (by kernel_rfl) (by rfl) (by rfl) (fun K hK => ?_) (fun K hK => ?_)
                    · have hA2 := Lib.hid hHeld.1
                      refine wp_append_any _ _ 22 rfl v5.heap.size 9 i0 _ 1 16 Tryd.underlying22 hi0 hz0 hz1' hz2' rfl (by decide) _ _ _ rfl (HOF.out _ (by first | exact Aft.refl _ | exact Below.drew (Aft.refl _) | exact (Aft.refl _).alloc _ | exact Below.drew ((Aft.refl _).alloc _) | exact Aft.alloc (Below.drew (Aft.refl _)) _ | exact Below.drew (Aft.alloc (Below.drew (Aft.refl _)) _))) X2 n2 q2 ((wordsB x D).map sV) rfl (by rw [List.length_map, RA.out.len, Nat.mul_one]) (fun e => by have h1 := RA.out.nl e; have h2 := RA.out.le; omega) (fun ad e => by subst e; exact news_of (RA.out.aft (by first | exact hA2.out | exact Below.drew hA2.out))) (map_one (fun _ => rfl) _) (by unfold maxLen; omega) (by omega) (by first | exact hA2.out.size | exact Below.size (Below.drew hA2.out)) (fun v1 wn own1 grow1 => ?_)
                      have hAn := Lib.hid (show Aft v5 wn from (by first | exact hA2.out.grown grow1 (fun k e => (HO.out.lt k e).1) | exact (show Aft v5 _ from Below.drew hA2.out).grown grow1 (fun k e => (HO.out.lt k e).1)))
                      have HO1 := Lib.hid own1
                      have HO1F := Lib.hid (fun W' (a : Aft _ W') => row_aft HO1.out a)
                      clear own1 grow1
                      try go_simp
                      refine hK.out _ _ (HSX.out _ hAn.out) (fun hHeld => ?_)
                      clear hK K
                      try simp only [Act.put, List.setIfInBounds_toArray, List.set_cons_zero, List.set_cons_succ]
                      refine one_ready (i := 5) rfl (by kernel_rfl) (by rfl) (fun K hK => ?_)
                      have hA9158 := Lib.hid hHeld.1
                      go_simp
                      refine hK.out _ _ (HSX.out _ (by first | exact Aft.alloc hA9158.out _ | exact Aft.alloc (Below.drew hA9158.out) _)) (fun hHeld => ?_)
                      clear hK K
                      try simp only [Act.put, List.setIfInBounds_toArray, List.set_cons_zero, List.set_cons_succ]
                      first | have hle9 := le_new hHeld.1 | have hle9 := le_newD hHeld.1
                      try simp only [World.size_alloc] at hle9
                      have HLE := Lib.hid hle9
                      clear hle9
                      have HLF := Lib.hid (fun W' (a : Aft _ W') => a.cell HLE.out)
                      refine one_ready (i := 6) rfl (by kernel_rfl) (by rfl) (fun K hK => ?_)
                      have hA6 := Lib.hid hHeld.1
                      refine wp_append_any _ _ 22 rfl v5.heap.size 9 i0 _ 1 16 Tryd.underlying22 hi0 hz0 hz1' hz2' rfl (by decide) _ _ _ rfl (HO1F.out _ (by first | exact Aft.refl _ | exact Below.drew (Aft.refl _) | exact (Aft.refl _).alloc _ | exact Below.drew ((Aft.refl _).alloc _) | exact Aft.alloc (Below.drew (Aft.refl _)) _ | exact Below.drew (Aft.alloc (Below.drew (Aft.refl _)) _))) (some ⟨_, 0, none⟩) 1 1 ([x.le].map sV) rfl rfl (fun e => (by cases e)) (fun ad e => by cases e; exact news_of (row1 (HLF.out _ (by first | exact Aft.refl _ | exact Below.drew (Aft.refl _) | exact (Aft.refl _).alloc _ | exact Below.drew ((Aft.refl _).alloc _) | exact Aft.alloc (Below.drew (Aft.refl _)) _ | exact Below.drew (Aft.alloc (Below.drew (Aft.refl _)) _))))) (map_one (fun _ => rfl) _) (by unfold maxLen; omega) (by omega) (by first | exact hA6.out.size | exact Below.size (Below.drew hA6.out)) (fun v2 wn own2 grow2 => ?_)
                      have hAm := Lib.hid (show Aft v5 wn from (by first | exact hA6.out.grown grow2 (fun k e => (HO1.out.lt k e).1) | exact (show Aft v5 _ from Below.drew hA6.out).grown grow2 (fun k e => (HO1.out.lt k e).1)))
                      have HO3 := Lib.hid own2
                      have HO3F := Lib.hid (fun W' (a : Aft _ W') => row_aft HO3.out a)
                      clear own2 grow2
                      try go_simp
                      refine hK.out _ _ (HSX.out _ hAm.out) (fun hHeld => ?_)
                      clear hK K
                      try simp only [Act.put, List.setIfInBounds_toArray, List.set_cons_zero, List.set_cons_succ]
                      refine one_ready (i := 8) rfl (by kernel_rfl) (by rfl) (fun K hK => ?_)
                      have hA8 := Lib.hid hHeld.1
                      refine wp_append_any _ _ 22 rfl v5.heap.size 9 i0 _ 1 16 Tryd.underlying22 hi0 hz0 hz1' hz2' rfl (by decide) _ _ _ rfl (HO3F.out _ (by first | exact Aft.refl _ | exact Below.drew (Aft.refl _) | exact (Aft.refl _).alloc _ | exact Below.drew ((Aft.refl _).alloc _) | exact Aft.alloc (Below.drew (Aft.refl _)) _ | exact Below.drew (Aft.alloc (Below.drew (Aft.refl _)) _))) X3 n3 q3 ((wordsB x KQ).map sV) rfl (by rw [List.length_map, R3.out.len, Nat.mul_one]) (fun e => by have h1 := R3.out.nl e; have h2 := R3.out.le; omega) (fun ad e => by subst e; exact news_of (R3.out.aft (by first | exact hA8.out | exact Below.drew hA8.out))) (map_one (fun _ => rfl) _) (by unfold maxLen; omega) (by omega) (by first | exact hA8.out.size | exact Below.size (Below.drew hA8.out)) (fun v3 wn own3 grow3 => ?_)
                      have hAz := Lib.hid (show Aft v5 wn from (by first | exact hA8.out.grown grow3 (fun k e => (HO3.out.lt k e).1) | exact (show Aft v5 _ from Below.drew hA8.out).grown grow3 (fun k e => (HO3.out.lt k e).1)))
                      obtain ⟨N3, hN3⟩ : ∃ N3, 0 + n2 + 1 + n3 = N3 := ⟨_, rfl⟩
                      rw [hN3] at own3
                      obtain ⟨Xz, qz, rfl, hXz⟩ := Rw.of_row (enc := sV) (l := wordsB x D ++ ([x.le] ++ wordsB x KQ)) (by simpa using own3) (by have l1 := RA.out.len; have l2 := R3.out.len; (try simp at l2); simp; omega)
                      have HXZ := Lib.hid hXz
                      clear own3 grow3 hXz hN3
                      try go_simp
                      refine hK.out _ _ (HSX.out _ hAz.out) (fun hHeld => ?_)
                      clear hK K
                      try simp only [Act.put, List.setIfInBounds_toArray, List.set_cons_zero, List.set_cons_succ]
                      refine take_on (i := 9) (v := ?v9159) rfl (by kernel_rfl) (by kernel_rfl) (by kernel_rfl) (fun _ _ _ h => h) (by rfl) (by assumption) ?y9159 ?_
                      case y9159 => (intro w hSw; (try dsimp only at hSw); go_simp; (try with_reducible rfl))
                      try simp only [Act.put, List.setIfInBounds_toArray, List.set_cons_zero, List.set_cons_succ]
                      refine wpAnyH_done (by kernel_rfl) ?_ _
                      go_wp2
                      go_meet
                      exact ⟨_, _, _, rfl, HXZ.out, hHeld.1⟩
                    · have hA9160 := Lib.hid hHeld.1
                      go_simp
                      refine hK.out _ _ (HSX.out _ (by first | exact Aft.alloc hA9160.out _ | exact Aft.alloc (Below.drew hA9160.out) _)) (fun hHeld => ?_)
                      clear hK K
                      try simp only [Act.put, List.setIfInBounds_toArray, List.set_cons_zero, List.set_cons_succ]
                      first | have hle9 := le_new hHeld.1 | have hle9 := le_newD hHeld.1
                      try simp only [World.size_alloc] at hle9
                      have HLE := Lib.hid hle9
                      clear hle9
                      have HLF := Lib.hid (fun W' (a : Aft _ W') => a.cell HLE.out)
                      refine one_ready (i := 2) rfl (by kernel_rfl) (by rfl) (fun K hK => ?_)
                      have hA2 := Lib.hid hHeld.1
                      refine wp_append_any _ _ 22 rfl v5.heap.size 9 i0 _ 1 16 Tryd.underlying22 hi0 hz0 hz1' hz2' rfl (by decide) _ _ _ rfl (HOF.out _ (by first | exact Aft.refl _ | exact Below.drew (Aft.refl _) | exact (Aft.refl _).alloc _ | exact Below.drew ((Aft.refl _).alloc _) | exact Aft.alloc (Below.drew (Aft.refl _)) _ | exact Below.drew (Aft.alloc (Below.drew (Aft.refl _)) _))) X2 n2 q2 ((wordsB x D).map sV) rfl (by rw [List.length_map, RA.out.len, Nat.mul_one]) (fun e => by have h1 := RA.out.nl e; have h2 := RA.out.le; omega) (fun ad e => by subst e; exact news_of (RA.out.aft (by first | exact hA2.out | exact Below.drew hA2.out))) (map_one (fun _ => rfl) _) (by unfold maxLen; omega) (by omega) (by first | exact hA2.out.size | exact Below.size (Below.drew hA2.out)) (fun v1 wn own1 grow1 => ?_)
                      have hAn := Lib.hid (show Aft v5 wn from (by first | exact hA2.out.grown grow1 (fun k e => (HO.out.lt k e).1) | exact (show Aft v5 _ from Below.drew hA2.out).grown grow1 (fun k e => (HO.out.lt k e).1)))
                      have HLG := Lib.hid (grown_cell grow1 (HLF.out _ (by first | exact Aft.refl _ | exact Below.drew (Aft.refl _) | exact (Aft.refl _).alloc _ | exact Below.drew ((Aft.refl _).alloc _) | exact Aft.alloc (Below.drew (Aft.refl _)) _ | exact Below.drew (Aft.alloc (Below.drew (Aft.refl _)) _))) (fun h => by have h2 : some (v5.heap.size + 1) = some v5.heap.size := h; simp at h2))
                      have HLH := Lib.hid (fun W' (a : Aft _ W') => a.cell HLG.out)
                      have HO1 := Lib.hid own1
                      have HO1F := Lib.hid (fun W' (a : Aft _ W') => row_aft HO1.out a)
                      clear own1 grow1
                      try go_simp
                      refine hK.out _ _ (HSX.out _ hAn.out) (fun hHeld => ?_)
                      clear hK K
                      try simp only [Act.put, List.setIfInBounds_toArray, List.set_cons_zero, List.set_cons_succ]
                      refine one_ready (i := 6) rfl (by kernel_rfl) (by rfl) (fun K hK => ?_)
                      have hA6 := Lib.hid hHeld.1
                      refine wp_append_any _ _ 22 rfl v5.heap.size 9 i0 _ 1 16 Tryd.underlying22 hi0 hz0 hz1' hz2' rfl (by decide) _ _ _ rfl (HO1F.out _ (by first | exact Aft.refl _ | exact Below.drew (Aft.refl _) | exact (Aft.refl _).alloc _ | exact Below.drew ((Aft.refl _).alloc _) | exact Aft.alloc (Below.drew (Aft.refl _)) _ | exact Below.drew (Aft.alloc (Below.drew (Aft.refl _)) _))) (some ⟨_, 0, none⟩) 1 1 ([x.le].map sV) rfl rfl (fun e => (by cases e)) (fun ad e => by cases e; exact news_of (row1 (HLH.out _ (by first | exact Aft.refl _ | exact Below.drew (Aft.refl _) | exact (Aft.refl _).alloc _ | exact Below.drew ((Aft.refl _).alloc _) | exact Aft.alloc (Below.drew (Aft.refl _)) _ | exact Below.drew (Aft.alloc (Below.drew (Aft.refl _)) _))))) (map_one (fun _ => rfl) _) (by unfold maxLen; omega) (by omega) (by first | exact hA6.out.size | exact Below.size (Below.drew hA6.out)) (fun v2 wn own2 grow2 => ?_)
                      have hAm := Lib.hid (show Aft v5 wn from (by first | exact hA6.out.grown grow2 (fun k e => (HO1.out.lt k e).1) | exact (show Aft v5 _ from Below.drew hA6.out).grown grow2 (fun k e => (HO1.out.lt k e).1)))
                      have HO3 := Lib.hid own2
                      have HO3F := Lib.hid (fun W' (a : Aft _ W') => row_aft HO3.out a)
                      clear own2 grow2
                      try go_simp
                      refine hK.out _ _ (HSX.out _ hAm.out) (fun hHeld => ?_)
                      clear hK K
                      try simp only [Act.put, List.setIfInBounds_toArray, List.set_cons_zero, List.set_cons_succ]
                      refine one_ready (i := 8) rfl (by kernel_rfl) (by rfl) (fun K hK => ?_)
                      have hA8 := Lib.hid hHeld.1
                      refine wp_append_any _ _ 22 rfl v5.heap.size 9 i0 _ 1 16 Tryd.underlying22 hi0 hz0 hz1' hz2' rfl (by decide) _ _ _ rfl (HO3F.out _ (by first | exact Aft.refl _ | exact Below.drew (Aft.refl _) | exact (Aft.refl _).alloc _ | exact Below.drew ((Aft.refl _).alloc _) | exact Aft.alloc (Below.drew (Aft.refl _)) _ | exact Below.drew (Aft.alloc (Below.drew (Aft.refl _)) _))) X3 n3 q3 ((wordsB x KQ).map sV) rfl (by rw [List.length_map, R3.out.len, Nat.mul_one]) (fun e => by have h1 := R3.out.nl e; have h2 := R3.out.le; omega) (fun ad e => by subst e; exact news_of (R3.out.aft (by first | exact hA8.out | exact Below.drew hA8.out))) (map_one (fun _ => rfl) _) (by unfold maxLen; omega) (by omega) (by first | exact hA8.out.size | exact Below.size (Below.drew hA8.out)) (fun v3 wn own3 grow3 => ?_)
                      have hAz := Lib.hid (show Aft v5 wn from (by first | exact hA8.out.grown grow3 (fun k e => (HO3.out.lt k e).1) | exact (show Aft v5 _ from Below.drew hA8.out).grown grow3 (fun k e => (HO3.out.lt k e).1)))
                      obtain ⟨N3, hN3⟩ : ∃ N3, 0 + n2 + 1 + n3 = N3 := ⟨_, rfl⟩
                      rw [hN3] at own3
                      obtain ⟨Xz, qz, rfl, hXz⟩ := Rw.of_row (enc := sV) (l := wordsB x D ++ ([x.le] ++ wordsB x KQ)) (by simpa using own3) (by have l1 := RA.out.len; have l2 := R3.out.len; (try simp at l2); simp; omega)
                      have HXZ := Lib.hid hXz
                      clear own3 grow3 hXz hN3
                      try go_simp
                      refine hK.out _ _ (HSX.out _ hAz.out) (fun hHeld => ?_)
                      clear hK K
                      try simp only [Act.put, List.setIfInBounds_toArray, List.set_cons_zero, List.set_cons_succ]
                      refine take_on (i := 9) (v := ?v9161) rfl (by kernel_rfl) (by kernel_rfl) (by kernel_rfl) (fun _ _ _ h => h) (by rfl) (by assumption) ?y9161 ?_
                      case y9161 => (intro w hSw; (try dsimp only at hSw); go_simp; (try with_reducible rfl))
                      try simp only [Act.put, List.setIfInBounds_toArray, List.set_cons_zero, List.set_cons_succ]
                      refine wpAnyH_done (by kernel_rfl) ?_ _
                      go_wp2
                      go_meet
                      exact ⟨_, _, _, rfl, HXZ.out, hHeld.1⟩
                  · have hA9162 := Lib.hid hHeld.1
                    go_simp
                    refine hK.out _ _ (HSX.out _ (by first | exact Aft.alloc hA9162.out _ | exact Aft.alloc (Below.drew hA9162.out) _)) (fun hHeld => ?_)
                    clear hK K
                    try simp only [Act.put, List.setIfInBounds_toArray, List.set_cons_zero, List.set_cons_succ]
                    first | have hle9 := le_new hHeld.1 | have hle9 := le_newD hHeld.1
                    try simp only [World.size_alloc] at hle9
                    have HLE := Lib.hid hle9
                    clear hle9
                    have HLF := Lib.hid (fun W' (a : Aft _ W') => a.cell HLE.out)
                    refine one_ready (i := 0) rfl (by kernel_rfl) (by rfl) (fun K hK => ?_)
                    have hA9163 := Lib.hid hHeld.1
                    go_simp
                    refine hK.out _ _ (HSX.out _ (by first | exact Aft.alloc hA9163.out _ | exact Aft.alloc (Below.drew hA9163.out) _)) (fun hHeld => ?_)
                    clear hK K
                    try simp only [Act.put, List.setIfInBounds_toArray, List.set_cons_zero, List.set_cons_succ]
                    first | have ho9 := own_weak (own_new hHeld.1) (show v5.heap.size ≤ _ from by first | exact Nat.le_refl _ | (simp; done) | (show _ ≤ (World.alloc _ _).heap.size; simp)) | have ho9 := own_weak (own_newD hHeld.1) (show v5.heap.size ≤ _ from by first | exact Nat.le_refl _ | (simp; done) | (show _ ≤ (World.alloc _ _).heap.size; simp))
                    try simp only [World.size_alloc] at ho9
                    have HO := Lib.hid ho9
                    clear ho9
                    have HOF := Lib.hid (fun W' (a : Aft _ W') => row_aft HO.out a)
                    refine one_ready (i := 2) rfl (by kernel_rfl) (by rfl) (fun K hK => ?_)
                    have hA2 := Lib.hid hHeld.1
                    refine wp_append_any _ _ 22 rfl v5.heap.size 9 i0 _ 1 16 Tryd.underlying22 hi0 hz0 hz1' hz2' rfl (by decide) _ _ _ rfl (HOF.out _ (by first | exact Aft.refl _ | exact Below.drew (Aft.refl _) | exact (Aft.refl _).alloc _ | exact Below.drew ((Aft.refl _).alloc _) | exact Aft.alloc (Below.drew (Aft.refl _)) _ | exact Below.drew (Aft.alloc (Below.drew (Aft.refl _)) _))) X2 n2 q2 ((wordsB x D).map sV) rfl (by rw [List.length_map, RA.out.len, Nat.mul_one]) (fun e => by have h1 := RA.out.nl e; have h2 := RA.out.le; omega) (fun ad e => by subst e; exact news_of (RA.out.aft (by first | exact hA2.out | exact Below.drew hA2.out))) (map_one (fun _ => rfl) _) (by unfold maxLen; omega) (by omega) (by first | exact hA2.out.size | exact Below.size (Below.drew hA2.out)) (fun v1 wn own1 grow1 => ?_)
                    have hAn := Lib.hid (show Aft v5 wn from (by first | exact hA2.out.grown grow1 (fun k e => (HO.out.lt k e).1) | exact (show Aft v5 _ from Below.drew hA2.out).grown grow1 (fun k e => (HO.out.lt k e).1)))
                    have HLG := Lib.hid (grown_cell grow1 (HLF.out _ (by first | exact Aft.refl _ | exact Below.drew (Aft.refl _) | exact (Aft.refl _).alloc _ | exact Below.drew ((Aft.refl _).alloc _) | exact Aft.alloc (Below.drew (Aft.refl _)) _ | exact Below.drew (Aft.alloc (Below.drew (Aft.refl _)) _))) (fun h => by have h2 : some v5.heap.size = some (v5.heap.size + 1) := h; simp at h2))
                    have HLH := Lib.hid (fun W' (a : Aft _ W') => a.cell HLG.out)
                    have HO1 := Lib.hid own1
                    have HO1F := Lib.hid (fun W' (a : Aft _ W') => row_aft HO1.out a)
                    clear own1 grow1
                    try go_simp
                    refine hK.out _ _ (HSX.out _ hAn.out) (fun hHeld => ?_)
                    clear hK K
                    try simp only [Act.put, List.setIfInBounds_toArray, List.set_cons_zero, List.set_cons_succ]
                    refine one_ready (i := 6) rfl (by kernel_rfl) (by rfl) (fun K hK => ?_)
                    have hA6 := Lib.hid hHeld.1
                    refine wp_append_any _ _ 22 rfl v5.heap.size 9 i0 _ 1 16 Tryd.underlying22 hi0 hz0 hz1' hz2' rfl (by decide) _ _ _ rfl (HO1F.out _ (by first | exact Aft.refl _ | exact Below.drew (Aft.refl _) | exact (Aft.refl _).alloc _ | exact Below.drew ((Aft.refl _).alloc _) | exact Aft.alloc (Below.drew (Aft.refl _)) _ | exact Below.drew (Aft.alloc (Below.drew (Aft.refl _)) _))) (some ⟨_, 0, none⟩) 1 1 ([x.le].map sV) rfl rfl (fun e => (by cases e)) (fun ad e => by cases e; exact news_of (row1 (HLH.out _ (by first | exact Aft.refl _ | exact Below.drew (Aft.refl _) | exact (Aft.refl _).alloc _ | exact Below.drew ((Aft.refl _).alloc _) | exact Aft.alloc (Below.drew (Aft.refl _)) _ | exact Below.drew (Aft.alloc (Below.drew (Aft.refl _)) _))))) (map_one (fun _ => rfl) _) (by unfold maxLen; omega) (by omega) (by first | exact hA6.out.size | exact Below.size (Below.drew hA6.out)) (fun v2 wn own2 grow2 => ?_)
                    have hAm := Lib.hid (show Aft v5 wn from (by first | exact hA6.out.grown grow2 (fun k e => (HO1.out.lt k e).1) | exact (show Aft v5 _ from Below.drew hA6.out).grown grow2 (fun k e => (HO1.out.lt k e).1)))
                    have HO3 := Lib.hid own2
                    have HO3F := Lib.hid (fun W' (a : Aft _ W') => row_aft HO3.out a)
                    clear own2 grow2
                    try go_simp
                    refine hK.out _ _ (HSX.out _ hAm.out) (fun hHeld => ?_)
                    clear hK K
                    try simp only [Act.put, List.setIfInBounds_toArray, List.set_cons_zero, List.set_cons_succ]
                    refine one_ready (i := 8) rfl (by kernel_rfl) (by rfl) (fun K hK => ?_)
                    have hA8 := Lib.hid hHeld.1
                    refine wp_append_any _ _ 22 rfl v5.heap.size 9 i0 _ 1 16 Tryd.underlying22 hi0 hz0 hz1' hz2' rfl (by decide) _ _ _ rfl (HO3F.out _ (by first | exact Aft.refl _ | exact Below.drew (Aft.refl _) | exact (Aft.refl _).alloc _ | exact Below.drew ((Aft.refl _).alloc _) | exact Aft.alloc (Below.drew (Aft.refl _)) _ | exact Below.drew (Aft.alloc (Below.drew (Aft.refl _)) _))) X3 n3 q3 ((wordsB x KQ).map sV) rfl (by rw [List.length_map, R3.out.len, Nat.mul_one]) (fun e => by have h1 := R3.out.nl e; have h2 := R3.out.le; omega) (fun ad e => by subst e; exact news_of (R3.out.aft (by first | exact hA8.out | exact Below.drew hA8.out))) (map_one (fun _ => rfl) _) (by unfold maxLen; omega) (by omega) (by first | exact hA8.out.size | exact Below.size (Below.drew hA8.out)) (fun v3 wn own3 grow3 => ?_)
                    have hAz := Lib.hid (show Aft v5 wn from (by first | exact hA8.out.grown grow3 (fun k e => (HO3.out.lt k e).1) | exact (show Aft v5 _ from Below.drew hA8.out).grown grow3 (fun k e => (HO3.out.lt k e).1)))
                    obtain ⟨N3, hN3⟩ : ∃ N3, 0 + n2 + 1 + n3 = N3 := ⟨_, rfl⟩
                    rw [hN3] at own3
                    obtain ⟨Xz, qz, rfl, hXz⟩ := Rw.of_row (enc := sV) (l := wordsB x D ++ ([x.le] ++ wordsB x KQ)) (by simpa using own3) (by have l1 := RA.out.len; have l2 := R3.out.len; (try simp at l2); simp; omega)
                    have HXZ := Lib.hid hXz
                    clear own3 grow3 hXz hN3
                    try go_simp
                    refine hK.out _ _ (HSX.out _ hAz.out) (fun hHeld => ?_)
                    clear hK K
                    try simp only [Act.put, List.setIfInBounds_toArray, List.set_cons_zero, List.set_cons_succ]
                    refine take_on (i := 9) (v := ?v9164) rfl (by kernel_rfl) (by kernel_rfl) (by kernel_rfl) (fun _ _ _ h => h) (by rfl) (by assumption) ?y9164 ?_
                    case y9164 => (intro w hSw; (try dsimp only at hSw); go_simp; (try with_reducible rfl))
                    try simp only [Act.put, List.setIfInBounds_toArray, List.set_cons_zero, List.set_cons_succ]
                    refine wpAnyH_done (by kernel_rfl) ?_ _
                    go_wp2
                    go_meet
                    exact ⟨_, _, _, rfl, HXZ.out, hHeld.1⟩
                case rest =>
                  obtain ⟨Xz, nz, qz, rfl, hrz, hAz⟩ := hcut
                  have RZ := Lib.hid hrz
                  have HAZ := Lib.hid hAz
                  clear hrz hAz
                  go_wp2_with fail
                  refine (awake_any _ (tabs_aft HT.out (D5.trans HAZ.out))).mono ?_
                  rintro e w14 ⟨rfl, N14⟩
                  go_wp2_with fail
                  have h1 := texts_any X1 n1 q1 (wordsB x NN) Xz nz qz _ w14 (R1.out.aft (N4.trans (N5.trans (HAZ.out.trans N14)))) (RZ.out.aft N14)
                  rw [decide_eq_true HWB.out] at h1
                  refine h1.mono ?_
                  rintro e w15 ⟨rfl, N15⟩
                  go_wp2
                  go_ret
                  exact ⟨by first | rfl | simp, HA.out.trans (D5.trans (HAZ.out.trans (N14.trans N15)))⟩
              · have HQ := Lib.hid (words_big HV.out (show 9999 < (KQ : Int) by omega))
                have hq9i : (9999 : Int) < (KQ : Int) := by omega
                obtain ⟨c0, c1, c2, c3, c4, c5, c6, c7⟩ := HBX.out.aft D4
                go_wp2_with fail
                have h1 := words_any x (KQ : Int) v4 (tabs_aft HT.out D4) (HW.out.aft D4) HZ.out
                rw [HQ.out] at h1
                refine h1.mono ?_
                rintro e v5 ⟨⟨X3, n3, q3, rfl, r3⟩, N5⟩
                clear h1
                have D5 := D4.trans N5
                have R3 := Lib.hid (show Rw sV v5 X3 n3 q3 ([]) from r3)
                clear r3
                clear c0 c1 c2 c3 c4 c5 c6 c7
                have RA := Lib.hid (R2.out.aft N5)
                have hl2 : n2 ≤ 10 := by have h8 := words_short0 x D; have h9 := R2.out.len; omega
                have hl3 : n3 ≤ 10 := by have h9 := R3.out.len; simp at h9; omega
                have HBQ := Lib.hid (HBX.out.aft D5)
                obtain ⟨i0, hi0, hz0, hz1', hz2'⟩ := infoS_parts
                go_upto_region 16 with fail
                go_cut [20] from 92 to 100 (fun hh wx => ∃ (X : Option Addr) (nx cx : Nat), hh = .slice X nx cx ∧ Rw sV wx X nx cx (wordsB x D ++ ([x.le] ++ [])) ∧ Aft v5 wx)
                case first =>
                  have HSX := Lib.hid (show ∀ w', Aft v5 w' → (fun w' => Aft v5 w' ∧ w'.cell? ⟨w.heap.size, 0, none⟩ = some (.int .i64 x.base) ∧ w'.cell? ⟨w.heap.size, 1, none⟩ = some (.slice x.da x.dn x.dc) ∧ w'.cell? ⟨w.heap.size, 2, none⟩ = some (.slice x.pa x.pn x.pc) ∧ w'.cell? ⟨w.heap.size, 3, none⟩ = some (.bool x.sf) ∧ w'.cell? ⟨w.heap.size, 4, none⟩ = some (.string x.jo) ∧ w'.cell? ⟨w.heap.size, 5, none⟩ = some (.int .i64 x.sub) ∧ w'.cell? ⟨w.heap.size, 6, none⟩ = some (.string x.le) ∧ w'.cell? ⟨w.heap.size, 7, none⟩ = some (.bool x.om)) w' from fun w' a => ⟨a, (HBQ.out.aft a).c0, (HBQ.out.aft a).c1, (HBQ.out.aft a).c2, (HBQ.out.aft a).c3, (HBQ.out.aft a).c4, (HBQ.out.aft a).c5, (HBQ.out.aft a).c6, (HBQ.out.aft a).c7⟩)
                  refine wp_region_held_drew (S := fun w' => Aft v5 w' ∧ w'.cell? ⟨w.heap.size, 0, none⟩ = some (.int .i64 x.base) ∧ w'.cell? ⟨w.heap.size, 1, none⟩ = some (.slice x.da x.dn x.dc) ∧ w'.cell? ⟨w.heap.size, 2, none⟩ = some (.slice x.pa x.pn x.pc) ∧ w'.cell? ⟨w.heap.size, 3, none⟩ = some (.bool x.sf) ∧ w'.cell? ⟨w.heap.size, 4, none⟩ = some (.string x.jo) ∧ w'.cell? ⟨w.heap.size, 5, none⟩ = some (.int .i64 x.sub) ∧ w'.cell? ⟨w.heap.size, 6, none⟩ = some (.string x.le) ∧ w'.cell? ⟨w.heap.size, 7, none⟩ = some (.bool x.om)) (by kernel_rfl) (HSX.out _ (by first | exact Aft.refl _ | exact Below.drew (Aft.refl _) | exact (Aft.refl _).drewN _)) (fun hHeld => ?_)
                  refine take_on (i := 1) (v := ?v9166) rfl (by kernel_rfl) (by kernel_rfl) (by kernel_rfl) (fun _ _ _ h => h) (by rfl) (by assumption) ?y9166 ?_
                  case y9166 => (intro w hSw; (try dsimp only at hSw); go_simp; (try with_reducible rfl))
                  try simp only [Act.put, List.setIfInBounds_toArray, List.set_cons_zero, List.set_cons_succ]
                  refine take_on (i := 3) (v := ?v9167) rfl (by kernel_rfl) (by kernel_rfl) (by kernel_rfl) (fun _ _ _ h => h) (by rfl) (by assumption) ?y9167 ?_
                  case y9167 => (intro w hSw; (try dsimp only at hSw); go_simp; (try with_reducible rfl))
                  try simp only [Act.put, List.setIfInBounds_toArray, List.set_cons_zero, List.set_cons_succ]
                  refine take_on (i := 4) (v := ?v9168) rfl (by kernel_rfl) (by kernel_rfl) (by kernel_rfl) (fun _ _ _ h => h) (by rfl) (by assumption) ?y9168 ?_
                  case y9168 => (intro w hSw; (try dsimp only at hSw); go_simp; (try with_reducible rfl))
                  try simp only [Act.put, List.setIfInBounds_toArray, List.set_cons_zero, List.set_cons_succ]
                  refine take_on (i := 7) (v := ?v9169) rfl (by kernel_rfl) (by kernel_rfl) (by kernel_rfl) (fun _ _ _ h => h) (by rfl) (by assumption) ?y9169 ?_
                  case y9169 => (intro w hSw; (try dsimp only at hSw); go_simp; (try with_reducible rfl))
                  try simp only [Act.put, List.setIfInBounds_toArray, List.set_cons_zero, List.set_cons_succ]
                  refine two_readyN (i := 0) (j := 5) rfl rfl (by kernel_rfl) (by rfl) (by rfl) (fun K hK => ?_) (fun K hK => ?_)
                  · have hA9177 := Lib.hid hHeld.1
                    go_simp
                    refine hK.out _ _ (HSX.out _ (by first | exact Aft.alloc hA9177.out _ | exact Aft.alloc (Below.drew hA9177.out) _)) (fun hHeld => ?_)
                    clear hK K
                    try simp only [Act.put, List.setIfInBounds_toArray, List.set_cons_zero, List.set_cons_succ]
                    first | have ho9 := own_weak (own_new hHeld.1) (show v5.heap.size ≤ _ from by first | exact Nat.le_refl _ | (simp; done) | (show _ ≤ (World.alloc _ _).heap.size; simp)) | have ho9 := own_weak (own_newD hHeld.1) (show v5.heap.size ≤ _ from by first | exact Nat.le_refl _ | (simp; done) | (show _ ≤ (World.alloc _ _).heap.size; simp))
                    try simp only [World.size_alloc] at ho9
                    have HO := Lib.hid ho9
                    clear ho9
                    have HOF := Lib.hid (fun W' (a : Aft _ W') => row_aft HO.out a)
                    refine two_readyN (i := 2) (j := 5) rfl rfl (by kernel_rfl) (by rfl) (by rfl) (fun K hK => ?_) (fun K hK => ?_)
                    · have hA2 := Lib.hid hHeld.1
                      refine wp_append_any _ _ 22 rfl v5.heap.size 9 i0 _ 1 16 Tryd.underlying22 hi0 hz0 hz1' hz2' rfl (by decide) _ _ _ rfl (HOF.out _ (by first | exact Aft.refl _ | exact Below.drew (Aft.refl _) | exact (Aft.refl _).alloc _ | exact Below.drew ((Aft.refl _).alloc _) | exact Aft.alloc (Below.drew (Aft.refl _)) _ | exact Below.drew (Aft.alloc (Below.drew (Aft.refl _)) _))) X2 n2 q2 ((wordsB x D).map sV) rfl (by rw [List.length_map, RA.out.len, Nat.mul_one]) (fun e => by have h1 := RA.out.nl e; have h2 := RA.out.le; omega) (fun ad e => by subst e; exact news_of (RA.out.aft (by first | exact hA2.out | exact Below.drew hA2.out))) (map_one (fun _ => rfl) _) (by unfold maxLen; omega) (by omega) (by first | exact hA2.out.size | exact Below.size (Below.drew hA2.out)) (fun v1 wn own1 grow1 => ?_)
                      have hAn := Lib.hid (show Aft v5 wn from (by first | exact hA2.out.grown grow1 (fun k e => (HO.out.lt k e).1) | exact (show Aft v5 _ from Below.drew hA2.out).grown grow1 (fun k e => (HO.out.lt k e).1)))
                      have HO1 := Lib.hid own1
                      have HO1F := Lib.hid (fun W' (a : Aft _ W') => row_aft HO1.out a)
                      clear own1 grow1
                      try go_simp
                      refine hK.out _ _ (HSX.out _ hAn.out) (fun hHeld => ?_)
                      clear hK K
                      try simp only [Act.put, List.setIfInBounds_toArray, List.set_cons_zero, List.set_cons_succ]
                      refine one_ready (i := 5) rfl (by kernel_rfl) (by rfl) (fun K hK => ?_)
                      have hA9170 := Lib.hid hHeld.1
                      go_simp
                      refine hK.out _ _ (HSX.out _ (by first | exact Aft.alloc hA9170.out _ | exact Aft.alloc (Below.drew hA9170.out) _)) (fun hHeld => ?_)
                      clear hK K
                      try simp only [Act.put, List.setIfInBounds_toArray, List.set_cons_zero, List.set_cons_succ]
                      first | have hle9 := le_new hHeld.1 | have hle9 := le_newD hHeld.1
                      try simp only [World.size_alloc] at hle9
                      have HLE := Lib.hid hle9
                      clear hle9
                      have HLF := Lib.hid (fun W' (a : Aft _ W') => a.cell HLE.out)
                      refine one_ready (i := 6) rfl (by kernel_rfl) (by rfl) (fun K hK => ?_)
                      have hA6 := Lib.hid hHeld.1
                      refine wp_append_any _ _ 22 rfl v5.heap.size 9 i0 _ 1 16 Tryd.underlying22 hi0 hz0 hz1' hz2' rfl (by decide) _ _ _ rfl (HO1F.out _ (by first | exact Aft.refl _ | exact Below.drew (Aft.refl _) | exact (Aft.refl _).alloc _ | exact Below.drew ((Aft.refl _).alloc _) | exact Aft.alloc (Below.drew (Aft.refl _)) _ | exact Below.drew (Aft.alloc (Below.drew (Aft.refl _)) _))) (some ⟨_, 0, none⟩) 1 1 ([x.le].map sV) rfl rfl (fun e => (by cases e)) (fun ad e => by cases e; exact news_of (row1 (HLF.out _ (by first | exact Aft.refl _ | exact Below.drew (Aft.refl _) | exact (Aft.refl _).alloc _ | exact Below.drew ((Aft.refl _).alloc _) | exact Aft.alloc (Below.drew (Aft.refl _)) _ | exact Below.drew (Aft.alloc (Below.drew (Aft.refl _)) _))))) (map_one (fun _ => rfl) _) (by unfold maxLen; omega) (by omega) (by first | exact hA6.out.size | exact Below.size (Below.drew hA6.out)) (fun v2 wn own2 grow2 => ?_)
                      have hAm := Lib.hid (show Aft v5 wn from (by first | exact hA6.out.grown grow2 (fun k e => (HO1.out.lt k e).1) | exact (show Aft v5 _ from Below.drew hA6.out).grown grow2 (fun k e => (HO1.out.lt k e).1)))
                      have HO3 := Lib.hid own2
                      have HO3F := Lib.hid (fun W' (a : Aft _ W') => row_aft HO3.out a)
                      clear own2 grow2
                      try go_simp
                      refine hK.out _ _ (HSX.out _ hAm.out) (fun hHeld => ?_)
                      clear hK K
                      try simp only [Act.put, List.setIfInBounds_toArray, List.set_cons_zero, List.set_cons_succ]
                      refine one_ready (i := 8) rfl (by kernel_rfl) (by rfl) (fun K hK => ?_)
                      have hA8 := Lib.hid hHeld.1
                      refine wp_append_any _ _ 22 rfl v5.heap.size 9 i0 _ 1 16 Tryd.underlying22 hi0 hz0 hz1' hz2' rfl (by decide) _ _ _ rfl (HO3F.out _ (by first | exact Aft.refl _ | exact Below.drew (Aft.refl _) | exact (Aft.refl _).alloc _ | exact Below.drew ((Aft.refl _).alloc _) | exact Aft.alloc (Below.drew (Aft.refl _)) _ | exact Below.drew (Aft.alloc (Below.drew (Aft.refl _)) _))) X3 n3 q3 (([]).map sV) rfl (by rw [List.length_map, R3.out.len, Nat.mul_one]) (fun e => by have h1 := R3.out.nl e; have h2 := R3.out.le; omega) (fun ad e => by subst e; exact news_of (R3.out.aft (by first | exact hA8.out | exact Below.drew hA8.out))) (map_one (fun _ => rfl) _) (by unfold maxLen; omega) (by omega) (by first | exact hA8.out.size | exact Below.size (Below.drew hA8.out)) (fun v3 wn own3 grow3 => ?_)
                      have hAz := Lib.hid (show Aft v5 wn from (by first | exact hA8.out.grown grow3 (fun k e => (HO3.out.lt k e).1) | exact (show Aft v5 _ from Below.drew hA8.out).grown grow3 (fun k e => (HO3.out.lt k e).1)))
                      obtain ⟨N3, hN3⟩ : ∃ N3, 0 + n2 + 1 + n3 = N3 := ⟨_, rfl⟩
                      rw [hN3] at own3
                      obtain ⟨Xz, qz, rfl, hXz⟩ := Rw.of_row (enc := sV) (l := wordsB x D ++ ([x.le] ++ [])) (by simpa using own3) (by have l1 := RA.out.len; have l2 := R3.out.len; (try simp at l2); simp; omega)
                      have HXZ := Lib.hid hXz
                      clear own3 grow3 hXz hN3
                      try go_simp
                      refine hK.out _ _ (HSX.out _ hAz.out) (fun hHeld => ?_)
                      clear hK K
                      try simp only [Act.put, List.setIfInBounds_toArray, List.set_cons_zero, List.set_cons_succ]
                      refine take_on (i := 9) (v := ?v9171) rfl (by kernel_rfl) (by kernel_rfl) (by kernel_rfl) (fun _ _ _ h => h) (by rfl) (by assumption) ?y9171 ?_
                      case y9171 => (intro w hSw; (try dsimp only at hSw); go_simp; (try with_reducible rfl))
                      try simp only [Act.put, List.setIfInBounds_toArray, List.set_cons_zero, List.set_cons_succ]
                      refine wpAnyH_done (by kernel_rfl) ?_ _
                      go_wp2
                      go_meet
                      exact ⟨_, _, _, rfl, HXZ.out, hHeld.1⟩
                    · have hA9172 := Lib.hid hHeld.1
                      go_simp
                      refine hK.out _ _ (HSX.out _ (by first | exact Aft.alloc hA9172.out _ | exact Aft.alloc (Below.drew hA9172.out) _)) (fun hHeld => ?_)
                      clear hK K
                      try simp only [Act.put, List.setIfInBounds_toArray, List.set_cons_zero, List.set_cons_succ]
                      first | have hle9 := le_new hHeld.1 | have hle9 := le_newD hHeld.1
                      try simp only [World.size_alloc] at hle9
                      have HLE := Lib.hid hle9
                      clear hle9
                      have HLF := Lib.hid (fun W' (a : Aft _ W') => a.cell HLE.out)
                      refine one_ready (i := 2) rfl (by kernel_rfl) (by rfl) (fun K hK => ?_)
                      have hA2 := Lib.hid hHeld.1
                      refine wp_append_any _ _ 22 rfl v5.heap.size 9 i0 _ 1 16 Tryd.underlying22 hi0 hz0 hz1' hz2' rfl (by decide) _ _ _ rfl (HOF.out _ (by first | exact Aft.refl _ | exact Below.drew (Aft.refl _) | exact (Aft.refl _).alloc _ | exact Below.drew ((Aft.refl _).alloc _) | exact Aft.alloc (Below.drew (Aft.refl _)) _ | exact Below.drew (Aft.alloc (Below.drew (Aft.refl _)) _))) X2 n2 q2 ((wordsB x D).map sV) rfl (by rw [List.length_map, RA.out.len, Nat.mul_one]) (fun e => by have h1 := RA.out.nl e; have h2 := RA.out.le; omega) (fun ad e => by subst e; exact news_of (RA.out.aft (by first | exact hA2.out | exact Below.drew hA2.out))) (map_one (fun _ => rfl) _) (by unfold maxLen; omega) (by omega) (by first | exact hA2.out.size | exact Below.size (Below.drew hA2.out)) (fun v1 wn own1 grow1 => ?_)
                      have hAn := Lib.hid (show Aft v5 wn from (by first | exact hA2.out.grown grow1 (fun k e => (HO.out.lt k e).1) | exact (show Aft v5 _ from Below.drew hA2.out).grown grow1 (fun k e => (HO.out.lt k e).1)))
                      have HLG := Lib.hid (grown_cell grow1 (HLF.out _ (by first | exact Aft.refl _ | exact Below.drew (Aft.refl _) | exact (Aft.refl _).alloc _ | exact Below.drew ((Aft.refl _).alloc _) | exact Aft.alloc (Below.drew (Aft.refl _)) _ | exact Below.drew (Aft.alloc (Below.drew (Aft.refl _)) _))) (fun h => by have h2 : some (v5.heap.size + 1) = some v5.heap.size := h; simp at h2))
                      have HLH := Lib.hid (fun W' (a : Aft _ W') => a.cell HLG.out)
                      have HO1 := Lib.hid own1
                      have HO1F := Lib.hid (fun W' (a : Aft _ W') => row_aft HO1.out a)
                      clear own1 grow1
                      try go_simp
                      refine hK.out _ _ (HSX.out _ hAn.out) (fun hHeld => ?_)
                      clear hK K
                      try simp only [Act.put, List.setIfInBounds_toArray, List.set_cons_zero, List.set_cons_succ]
                      refine one_ready (i := 6) rfl (by kernel_rfl) (by rfl) (fun K hK => ?_)
                      have hA6 := Lib.hid hHeld.1
                      refine wp_append_any _ _ 22 rfl v5.heap.size 9 i0 _ 1 16 Tryd.underlying22 hi0 hz0 hz1' hz2' rfl (by decide) _ _ _ rfl (HO1F.out _ (by first | exact Aft.refl _ | exact Below.drew (Aft.refl _) | exact (Aft.refl _).alloc _ | exact Below.drew ((Aft.refl _).alloc _) | exact Aft.alloc (Below.drew (Aft.refl _)) _ | exact Below.drew (Aft.alloc (Below.drew (Aft.refl _)) _))) (some ⟨_, 0, none⟩) 1 1 ([x.le].map sV) rfl rfl (fun e => (by cases e)) (fun ad e => by cases e; exact news_of (row1 (HLH.out _ (by first | exact Aft.refl _ | exact Below.drew (Aft.refl _) | exact (Aft.refl _).alloc _ | exact Below.drew ((Aft.refl _).alloc _) | exact Aft.alloc (Below.drew (Aft.refl _)) _ | exact Below.drew (Aft.alloc (Below.drew (Aft.refl _)) _))))) (map_one (fun _ => rfl) _) (by unfold maxLen; omega) (by omega) (by first | exact hA6.out.size | exact Below.size (Below.drew hA6.out)) (fun v2 wn own2 grow2 => ?_)
                      have hAm := Lib.hid (show Aft v5 wn from (by first | exact hA6.out.grown grow2 (fun k e => (HO1.out.lt k e).1) | exact (show Aft v5 _ from Below.drew hA6.out).grown grow2 (fun k e => (HO1.out.lt k e).1)))
                      have HO3 := Lib.hid own2
                      have HO3F := Lib.hid (fun W' (a : Aft _ W') => row_aft HO3.out a)
                      clear own2 grow2
                      try go_simp
                      refine hK.out _ _ (HSX.out _ hAm.out) (fun hHeld => ?_)
                      clear hK K
                      try simp only [Act.put, List.setIfInBounds_toArray, List.set_cons_zero, List.set_cons_succ]
                      refine one_ready (i := 8) rfl (by kernel_rfl) (by rfl) (fun K hK => ?_)
                      have hA8 := Lib.hid hHeld.1
                      refine wp_append_any _ _ 22 rfl v5.heap.size 9 i0 _ 1 16 Tryd.underlying22 hi0 hz0 hz1' hz2' rfl (by decide) _ _ _ rfl (HO3F.out _ (by first | exact Aft.refl _ | exact Below.drew (Aft.refl _) | exact (Aft.refl _).alloc _ | exact Below.drew ((Aft.refl _).alloc _) | exact Aft.alloc (Below.drew (Aft.refl _)) _ | exact Below.drew (Aft.alloc (Below.drew (Aft.refl _)) _))) X3 n3 q3 (([]).map sV) rfl (by rw [List.length_map, R3.out.len, Nat.mul_one]) (fun e => by have h1 := R3.out.nl e; have h2 := R3.out.le; omega) (fun ad e => by subst e; exact news_of (R3.out.aft (by first | exact hA8.out | exact Below.drew hA8.out))) (map_one (fun _ => rfl) _) (by unfold maxLen; omega) (by omega) (by first | exact hA8.out.size | exact Below.size (Below.drew hA8.out)) (fun v3 wn own3 grow3 => ?_)
                      have hAz := Lib.hid (show Aft v5 wn from (by first | exact hA8.out.grown grow3 (fun k e => (HO3.out.lt k e).1) | exact (show Aft v5 _ from Below.drew hA8.out).grown grow3 (fun k e => (HO3.out.lt k e).1)))
                      obtain ⟨N3, hN3⟩ : ∃ N3, 0 + n2 + 1 + n3 = N3 := ⟨_, rfl⟩
                      rw [hN3] at own3
                      obtain ⟨Xz, qz, rfl, hXz⟩ := Rw.of_row (enc := sV) (l := wordsB x D ++ ([x.le] ++ [])) (by simpa using own3) (by have l1 := RA.out.len; have l2 := R3.out.len; (try simp at l2); simp; omega)
                      have HXZ := Lib.hid hXz
                      clear own3 grow3 hXz hN3
                      try go_simp
                      refine hK.out _ _ (HSX.out _ hAz.out) (fun hHeld => ?_)
                      clear hK K
                      try simp only [Act.put, List.setIfInBounds_toArray, List.set_cons_zero, List.set_cons_succ]
                      refine take_on (i := 9) (v := ?v9173) rfl (by kernel_rfl) (by kernel_rfl) (by kernel_rfl) (fun _ _ _ h => h) (by rfl) (by assumption) ?y9173 ?_
                      case y9173 => (intro w hSw; (try dsimp only at hSw); go_simp; (try with_reducible rfl))
                      try simp only [Act.put, List.setIfInBounds_toArray, List.set_cons_zero, List.set_cons_succ]
                      refine wpAnyH_done (by kernel_rfl) ?_ _
                      go_wp2
                      go_meet
                      exact ⟨_, _, _, rfl, HXZ.out, hHeld.1⟩
                  · have hA9174 := Lib.hid hHeld.1
                    go_simp
                    refine hK.out _ _ (HSX.out _ (by first | exact Aft.alloc hA9174.out _ | exact Aft.alloc (Below.drew hA9174.out) _)) (fun hHeld => ?_)
                    clear hK K
                    try simp only [Act.put, List.setIfInBounds_toArray, List.set_cons_zero, List.set_cons_succ]
                    first | have hle9 := le_new hHeld.1 | have hle9 := le_newD hHeld.1
                    try simp only [World.size_alloc] at hle9
                    have HLE := Lib.hid hle9
                    clear hle9
                    have HLF := Lib.hid (fun W' (a : Aft _ W') => a.cell HLE.out)
                    refine one_ready (i := 0) rfl (by kernel_rfl) (by rfl) (fun K hK => ?_)
                    have hA9175 := Lib.hid hHeld.1
                    go_simp
                    refine hK.out _ _ (HSX.out _ (by first | exact Aft.alloc hA9175.out _ | exact Aft.alloc (Below.drew hA9175.out) _)) (fun hHeld => ?_)
                    clear hK K
                    try simp only [Act.put, List.setIfInBounds_toArray, List.set_cons_zero, List.set_cons_succ]
                    first | have ho9 := own_weak (own_new hHeld.1) (show v5.heap.size ≤ _ from by first | exact Nat.le_refl _ | (simp; done) | (show _ ≤ (World.alloc _ _).heap.size; simp)) | have ho9 := own_weak (own_newD hHeld.1) (show v5.heap.size ≤ _ from by first | exact Nat.le_refl _ | (simp; done) | (show _ ≤ (World.alloc _ _).heap.size; simp))
                    try simp only [World.size_alloc] at ho9
                    have HO := Lib.hid ho9
                    clear ho9
                    have HOF := Lib.hid (fun W' (a : Aft _ W') => row_aft HO.out a)
                    refine one_ready (i := 2) rfl (by kernel_rfl) (by rfl) (fun K hK => ?_)
                    have hA2 := Lib.hid hHeld.1
                    refine wp_append_any _ _ 22 rfl v5.heap.size 9 i0 _ 1 16 Tryd.underlying22 hi0 hz0 hz1' hz2' rfl (by decide) _ _ _ rfl (HOF.out _ (by first | exact Aft.refl _ | exact Below.drew (Aft.refl _) | exact (Aft.refl _).alloc _ | exact Below.drew ((Aft.refl _).alloc _) | exact Aft.alloc (Below.drew (Aft.refl _)) _ | exact Below.drew (Aft.alloc (Below.drew (Aft.refl _)) _))) X2 n2 q2 ((wordsB x D).map sV) rfl (by rw [List.length_map, RA.out.len, Nat.mul_one]) (fun e => by have h1 := RA.out.nl e; have h2 := RA.out.le; omega) (fun ad e => by subst e; exact news_of (RA.out.aft (by first | exact hA2.out | exact Below.drew hA2.out))) (map_one (fun _ => rfl) _) (by unfold maxLen; omega) (by omega) (by first | exact hA2.out.size | exact Below.size (Below.drew hA2.out)) (fun v1 wn own1 grow1 => ?_)
                    have hAn := Lib.hid (show Aft v5 wn from (by first | exact hA2.out.grown grow1 (fun k e => (HO.out.lt k e).1) | exact (show Aft v5 _ from Below.drew hA2.out).grown grow1 (fun k e => (HO.out.lt k e).1)))
                    have HLG := Lib.hid (grown_cell grow1 (HLF.out _ (by first | exact Aft.refl _ | exact Below.drew (Aft.refl _) | exact (Aft.refl _).alloc _ | exact Below.drew ((Aft.refl _).alloc _) | exact Aft.alloc (Below.drew (Aft.refl _)) _ | exact Below.drew (Aft.alloc (Below.drew (Aft.refl _)) _))) (fun h => by have h2 : some v5.heap.size = some (v5.heap.size + 1) := h; simp at h2))
                    have HLH := Lib.hid (fun W' (a : Aft _ W') => a.cell HLG.out)
                    have HO1 := Lib.hid own1
                    have HO1F := Lib.hid (fun W' (a : Aft _ W') => row_aft HO1.out a)
                    clear own1 grow1
                    try go_simp
                    refine hK.out _ _ (HSX.out _ hAn.out) (fun hHeld => ?_)
                    clear hK K
                    try simp only [Act.put, List.setIfInBounds_toArray, List.set_cons_zero, List.set_cons_succ]
                    refine one_ready (i := 6) rfl (by kernel_rfl) (by rfl) (fun K hK => ?_)
                    have hA6 := Lib.hid hHeld.1
                    refine wp_append_any _ _ 22 rfl v5.heap.size 9 i0 _ 1 16 Tryd.underlying22 hi0 hz0 hz1' hz2' rfl (by decide) _ _ _ rfl (HO1F.out _ (by first | exact Aft.refl _ | exact Below.drew (Aft.refl _) | exact (Aft.refl _).alloc _ | exact Below.drew ((Aft.refl _).alloc _) | exact Aft.alloc (Below.drew (Aft.refl _)) _ | exact Below.drew (Aft.alloc (Below.drew (Aft.refl _)) _))) (some ⟨_, 0, none⟩) 1 1 ([x.le].map sV) rfl rfl (fun e => (by cases e)) (fun ad e => by cases e; exact news_of (row1 (HLH.out _ (by first | exact Aft.refl _ | exact Below.drew (Aft.refl _) | exact (Aft.refl _).alloc _ | exact Below.drew ((Aft.refl _).alloc _) | exact Aft.alloc (Below.drew (Aft.refl _)) _ | exact Below.drew (Aft.alloc (Below.drew (Aft.refl _)) _))))) (map_one (fun _ => rfl) _) (by unfold maxLen; omega) (by omega) (by first | exact hA6.out.size | exact Below.size (Below.drew hA6.out)) (fun v2 wn own2 grow2 => ?_)
                    have hAm := Lib.hid (show Aft v5 wn from (by first | exact hA6.out.grown grow2 (fun k e => (HO1.out.lt k e).1) | exact (show Aft v5 _ from Below.drew hA6.out).grown grow2 (fun k e => (HO1.out.lt k e).1)))
                    have HO3 := Lib.hid own2
                    have HO3F := Lib.hid (fun W' (a : Aft _ W') => row_aft HO3.out a)
                    clear own2 grow2
                    try go_simp
                    refine hK.out _ _ (HSX.out _ hAm.out) (fun hHeld => ?_)
                    clear hK K
                    try simp only [Act.put, List.setIfInBounds_toArray, List.set_cons_zero, List.set_cons_succ]
                    refine one_ready (i := 8) rfl (by kernel_rfl) (by rfl) (fun K hK => ?_)
                    have hA8 := Lib.hid hHeld.1
                    refine wp_append_any _ _ 22 rfl v5.heap.size 9 i0 _ 1 16 Tryd.underlying22 hi0 hz0 hz1' hz2' rfl (by decide) _ _ _ rfl (HO3F.out _ (by first | exact Aft.refl _ | exact Below.drew (Aft.refl _) | exact (Aft.refl _).alloc _ | exact Below.drew ((Aft.refl _).alloc _) | exact Aft.alloc (Below.drew (Aft.refl _)) _ | exact Below.drew (Aft.alloc (Below.drew (Aft.refl _)) _))) X3 n3 q3 (([]).map sV) rfl (by rw [List.length_map, R3.out.len, Nat.mul_one]) (fun e => by have h1 := R3.out.nl e; have h2 := R3.out.le; omega) (fun ad e => by subst e; exact news_of (R3.out.aft (by first | exact hA8.out | exact Below.drew hA8.out))) (map_one (fun _ => rfl) _) (by unfold maxLen; omega) (by omega) (by first | exact hA8.out.size | exact Below.size (Below.drew hA8.out)) (fun v3 wn own3 grow3 => ?_)
                    have hAz := Lib.hid (show Aft v5 wn from (by first | exact hA8.out.grown grow3 (fun k e => (HO3.out.lt k e).1) | exact (show Aft v5 _ from Below.drew hA8.out).grown grow3 (fun k e => (HO3.out.lt k e).1)))
                    obtain ⟨N3, hN3⟩ : ∃ N3, 0 + n2 + 1 + n3 = N3 := ⟨_, rfl⟩
                    rw [hN3] at own3
                    obtain ⟨Xz, qz, rfl, hXz⟩ := Rw.of_row (enc := sV) (l := wordsB x D ++ ([x.le] ++ [])) (by simpa using own3) (by have l1 := RA.out.len; have l2 := R3.out.len; (try simp at l2); simp; omega)
                    have HXZ := Lib.hid hXz
                    clear own3 grow3 hXz hN3
                    try go_simp
                    refine hK.out _ _ (HSX.out _ hAz.out) (fun hHeld => ?_)
                    clear hK K
                    try simp only [Act.put, List.setIfInBounds_toArray, List.set_cons_zero, List.set_cons_succ]
                    refine take_on (i := 9) (v := ?v9176) rfl (by kernel_rfl) (by kernel_rfl) (by kernel_rfl) (fun _ _ _ h => h) (by rfl) (by assumption) ?y9176 ?_
                    case y9176 => (intro w hSw; (try dsimp only at hSw); go_simp; (try with_reducible rfl))
                    try simp only [Act.put, List.setIfInBounds_toArray, List.set_cons_zero, List.set_cons_succ]
                    refine wpAnyH_done (by kernel_rfl) ?_ _
                    go_wp2
                    go_meet
                    exact ⟨_, _, _, rfl, HXZ.out, hHeld.1⟩
                case rest =>
                  obtain ⟨Xz, nz, qz, rfl, hrz, hAz⟩ := hcut
                  have RZ := Lib.hid hrz
                  have HAZ := Lib.hid hAz
                  clear hrz hAz
                  go_wp2_with fail
                  refine (awake_any _ (tabs_aft HT.out (D5.trans HAZ.out))).mono ?_
                  rintro e w14 ⟨rfl, N14⟩
                  go_wp2
                  go_ret
                  exact ⟨by first | rfl | simp, HA.out.trans (D5.trans (HAZ.out.trans N14))⟩
  · have HSM := Lib.hid (small_no hsm)
    clear hsm
    go_enter Tryd.func8, Tryd.ntmps8
    obtain ⟨c0, c1, c2, c3, c4, c5, c6, c7⟩ := HBX.out
    go_wp2_with fail
    have h1 := small_any x (w.alloc (.cells (nC x) 24))
    rw [HSM.out] at h1
    refine h1.mono ?_
    rintro e v1 ⟨rfl, N1⟩
    clear h1
    have D1 := N1
    clear c0 c1 c2 c3 c4 c5 c6 c7
    go_wp2_with fail
    have h1 := awake_any v1 (tabs_aft HT.out D1)
    refine h1.mono ?_
    rintro e v2 ⟨rfl, N2⟩
    clear h1
    have D2 := D1.trans N2
    go_wp2
    go_ret
    exact ⟨by first | rfl | simp, HA.out.trans D2⟩

theorem own : ownKnob Tryd.prog.godebug = none := by kernel_rfl
theorem laidOut : laidOutB Tryd.prog = true := by kernel_rfl

set_option maxRecDepth 100000 in
theorem contract (H : Type) (enc : TypeId × Value → H) (W : World) (base : Nat) (args : Array Value) (ds gs : List (DataW H)) (before : List MemPlace)
    (hval : ∀ (j : Nat) t v, Tryd.f8.params[j]? = some t → args[j]? = some v → Value.okWide Tryd.prog W .any base t v)
    (hW : DataW.Whole enc Tryd.prog Tryd.f8.params.toList Rows.numeralSubtractsSpec.vars false W args.toList ds gs before) (hsz0 : (DataW.weightsEach Tryd.prog (Tryd.f8.params.toList ++ Rows.numeralSubtractsSpec.plain.varTypes Tryd.prog) (ds ++ gs)).all (· ≤ reachBytes) = true) (hL : laidMetH Tryd.prog listed W) :
    Calls Tryd.prog 8 args W fun e W' => ∃ v, e = .returned v ∧ Rows.numeralSubtractsSpec.post enc Tryd.prog Tryd.f8 false true false false W args v W' := by
  have hW' := hW
  obtain ⟨p, q, hA0, hV, rfl, hfz, hnd⟩ := hW
  have hA : DataW.TrodAll enc Tryd.prog W 0 (fun _ => true) true Tryd.f8.params.toList args.toList ds p := hA0
  have hsz := hsz0
  rw [Tryd.params8] at hA hval hsz
  obtain ⟨v0, vs0, d0, ds0, p0, q0, hargs, rfl, rfl, h0, r0⟩ := trodAll_cons hA
  obtain ⟨v1, vs1, d1, ds1, p1, q1, rfl, rfl, rfl, h1, r1⟩ := trodAll_cons r0
  obtain ⟨v2, vs2, d2, ds2, p2, q2, rfl, rfl, rfl, h2, r2⟩ := trodAll_cons r1
  obtain ⟨v3, vs3, d3, ds3, p3, q3, rfl, rfl, rfl, h3, r3⟩ := trodAll_cons r2
  obtain ⟨rfl, rfl, rfl⟩ := trodAll_nil r3
  obtain rfl : args = #[v0, v1, v2, v3] := by cases args; simp_all
  obtain ⟨rfl, rfl⟩ := trodVars_none hV
  have lt0 : ∀ x ∈ p0, x.block < W.heap.size := by obtain ⟨m, hm⟩ := h0; exact DataW.trod_lt m _ _ _ hm
  obtain ⟨xs0, rfl, sn0, sz0, zb0, zs0⟩ := sys_of (okWide_struct Tryd.underlying24 (hval 0 24 v0 rfl rfl)) h0
  obtain ⟨xs1, rfl, rfl, rfl, z1⟩ := open_int Tryd.underlying5 (hval 1 5 v1 rfl rfl) h1
  obtain ⟨xs2, rfl, rfl, rfl, z2⟩ := open_int Tryd.underlying5 (hval 2 5 v2 rfl rfl) h2
  obtain ⟨xs3, rfl, rfl, rfl, z3⟩ := open_int Tryd.underlying5 (hval 3 5 v3 rfl rfl) h3
  clear hA0
  refine (walk xs0 xs1 xs2 xs3 W (tabs_of hL) sn0 sz0 zb0 zs0 z1 z2 z3).mono fun e W' ⟨he, bel⟩ => ?_
  subst he
  exact ⟨_, rfl, _, _, _, [], _, [], hW', trodAll_mk1 (shut_bool Tryd.underlying4 _), (trodAll_cons_mk (Below.trod laidOut (by kernel_rfl) (of_decide_eq_true (by kernel_rfl)) h0 bel lt0) (trodAll_cons_mk (shut_int Tryd.underlying5 z1) (trodAll_cons_mk (shut_int Tryd.underlying5 z2) (trodAll_cons_mk (shut_int Tryd.underlying5 z3) trodAll_mk0)))), rfl, Below.frame bel _, fun h => by cases h⟩

theorem witness_row (os : Os) {H : Type} (enc : TypeId × Value → H) :
    (OpenSpec.ofChange Rows.numeralSubtractsSpec).preRow enc Tryd.prog Tryd.f8 Rows.numeralSubtractsRow.domain false Rows.numeralSubtractsRow.laid ((laidWorld os).forCall (fun _ _ => 0) ⟨#[], #[.agg #[.int .i64 0, .slice none 0 0, .slice none 0 0, .bool false, .string ⟨#[]⟩, .int .i64 0, .string ⟨#[]⟩, .bool false], .int .u8 0, .int .u8 0, .int .u8 0], []⟩).memory #[.agg #[.int .i64 0, .slice none 0 0, .slice none 0 0, .bool false, .string ⟨#[]⟩, .int .i64 0, .string ⟨#[]⟩, .bool false], .int .u8 0, .int .u8 0, .int .u8 0] := by
  have hw : (DataW.whole enc Tryd.prog ((laidWorld os).forCall (fun _ _ => 0) ⟨#[], #[.agg #[.int .i64 0, .slice none 0 0, .slice none 0 0, .bool false, .string ⟨#[]⟩, .int .i64 0, .string ⟨#[]⟩, .bool false], .int .u8 0, .int .u8 0, .int .u8 0], []⟩).memory Tryd.f8.params.toList Rows.numeralSubtractsSpec.vars false (#[.agg #[.int .i64 0, .slice none 0 0, .slice none 0 0, .bool false, .string ⟨#[]⟩, .int .i64 0, .string ⟨#[]⟩, .bool false], .int .u8 0, .int .u8 0, .int .u8 0] : Array Value).toList 8).map (fun x => (x.1, x.2.1)) =
      some ([.agg [.lit (.int .i64 0), .nil, .nil, .lit (.bool false), .lit (.string []), .lit (.int .i64 0), .lit (.string []), .lit (.bool false)], .lit (.int .u8 0), .lit (.int .u8 0), .lit (.int .u8 0)], []) := by kernel_rfl
  obtain ⟨⟨x1, x2, x3⟩, hx, hx1⟩ := Option.map_eq_some_iff.1 hw
  simp only [Prod.mk.injEq] at hx1
  obtain ⟨rfl, rfl⟩ := hx1
  exact OpenSpec.preRow_of_cond 8 hx (by kernel_rfl) (fun k hk => by cases hk) (by kernel_rfl) (laid_met os _)

set_option maxRecDepth 100000 in
theorem lifted (os : Os) (started : os.Started) (H : Type) (enc : TypeId × Value → H) (F : Stop.Interp) :
    ReturnsInHanded {} Tryd.checked os 8 .any ((OpenSpec.ofChange Rows.numeralSubtractsSpec).preRow enc Tryd.prog Tryd.f8 Rows.numeralSubtractsRow.domain false Rows.numeralSubtractsRow.laid) (((OpenSpec.ofChange Rows.numeralSubtractsSpec).at F).post enc Tryd.prog Tryd.f8 false true false false) := by
  refine returnsInHanded_of_row (C := Tryd.checked) (s := (OpenSpec.ofChange Rows.numeralSubtractsSpec)) own started (by kernel_rfl) Tryd.func8
    (witness_row_atRef (enc := enc) (C := Tryd.checked) false (laidWorld os) #[.agg #[.int .i64 0, .slice none 0 0, .slice none 0 0, .bool false, .string ⟨#[]⟩, .int .i64 0, .string ⟨#[]⟩, .bool false], .int .u8 0, .int .u8 0, .int .u8 0] rfl (by kernel_rfl) (by kernel_rfl) (by kernel_rfl) (witness_row os enc)) ?_
  intro W base args ds gs before hval hW _ _ hsz hL _ _
  exact contract H enc W base args ds gs before hval hW hsz hL

theorem row : Rows.NumeralSubtractsSaid :=
  OpenClaim.holds_of_cond 8 Tryd.f8 rfl rfl rfl rfl rfl rfl rfl ⟨rfl, rfl, rfl, rfl, rfl⟩ rfl rfl rfl rfl rfl (by kernel_rfl) Tryd.func8 (by kernel_rfl)
    (of_decide_eq_true (by kernel_rfl)) (by unfold Func.isWrapper; rw [if_neg (of_decide_eq_false (by kernel_rfl))]; exact ⟨rfl, rfl⟩)
    (fun os started H enc _ F0 => by rw [OpenClaim.pre_eq_preRow]; exact lifted os started H enc F0)

/-- No parameter wants a stand-in; the program's own looks are off. -/
theorem plain (f : FuncId) (fn : Func) (hf : Tryd.pinned.checked.prog.funcNamed "pentaglot/pentaglotlaw15.NumeralSubtracts" = some f) (hfn : Tryd.pinned.checked.prog.funcs[f]? = some fn) :
    false = Tryd.pinned.checked.prog.looks [] ∧ ∀ (j : Nat) t, fn.params[j]? = some t → Tryd.pinned.checked.prog.wantsStandIn t = false := by
  obtain rfl : f = 8 := Option.some.inj ((show Tryd.prog.funcNamed "pentaglot/pentaglotlaw15.NumeralSubtracts" = some 8 by kernel_rfl).symm.trans hf) |>.symm
  obtain rfl : fn = Tryd.f8 := (Option.some.inj (Tryd.func8.symm.trans hfn)).symm
  refine ⟨by kernel_rfl, fun j t ht => ?_⟩
  rw [Tryd.params8] at ht
  have hm : t = 24 ∨ t = 5 ∨ t = 5 ∨ t = 5 := by simpa using Array.mem_of_getElem? ht
  rcases hm with rfl | rfl | rfl | rfl
  · exact (show Tryd.prog.wantsStandIn 24 = false by kernel_rfl)
  · exact (show Tryd.prog.wantsStandIn 5 = false by kernel_rfl)
  · exact (show Tryd.prog.wantsStandIn 5 = false by kernel_rfl)
  · exact (show Tryd.prog.wantsStandIn 5 = false by kernel_rfl)

theorem proved : Rows.NumeralSubtractsCardSaid :=
  Claim7.holds_tied_plain_at .later [] _ _ _ _ row (fun _ h => by cases h) (by kernel_rfl) (fun _ h => by cases h) numeralSubtracts_row_tie rfl ⟨rfl, rfl⟩ (by kernel_rfl) rfl plain (by kernel_rfl)
#print axioms proved
end Go.Proofs.YtdehghmpfkhljaaDoor.lawUFSubs
