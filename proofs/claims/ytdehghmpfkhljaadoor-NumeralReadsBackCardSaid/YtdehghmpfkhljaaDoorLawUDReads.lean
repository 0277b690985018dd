/-
  The words of a number are parsed as that number, and as other numbers only if these have the same words: the law NumeralReadsBack returns true. Conditions: none.
-/
import Derived.Test.YtdehghmpfkhljaaDoorNumFrame
import Derived.Test.YtdehghmpfkhljaaDoorNumLawB
import Derived.Test.YtdehghmpfkhljaaDoorNumInv
import Derived.Test.YtdehghmpfkhljaaDoorRegion
import Derived.Deep.DeepHandedRow
import Derived.Deep.DeepWitnessRowRef
import Derived.Deep.RegionHeld3
namespace Go.Proofs.YtdehghmpfkhljaaDoor.lawUDReads
open Go.ChangeShapes Go.WideShapes Go.ChangeAt Go.RowKit
open Go.ChangeMaps (open_string shut_string)
open NumPlain

set_option maxRecDepth 100000 in
set_option maxHeartbeats 3200000 in
theorem walk (x : Nm) (k1 : Int) (w : World) (hT : Tabs w) (hw : Nw w x) (hz : Sz x) (_ : (Lit.int .i64 x.base).wf = true) (_ : (Lit.int .i64 x.sub).wf = true) (hk1 : (Lit.int .u16 k1).wf = true) :
    Calls Tryd.prog 6 #[nV x, .int .u16 k1] w (BoolPost w true) := by
  have AL : Aft w (w.alloc (.cells (nC x) 24)) := (Aft.refl w).alloc _
  have HBX := Lib.hid (Bx.new w x 24)
  have HT := Lib.hid (tabs_aft hT AL)
  have HW := Lib.hid (hw.aft AL)
  have HZ := Lib.hid hz
  have HA := Lib.hid AL
  clear hT hw hz AL
  by_cases hsm : x.dn ≤ 40 ∧ x.pn ≤ 10
  · have HSM := Lib.hid (small_yes hsm)
    clear hsm
    cases hv : validB x
    · have HV := Lib.hid hv
      clear hv
      go_enter Tryd.func6, Tryd.ntmps6
      obtain ⟨c0, c1, c2, c3, c4, c5, c6, c7⟩ := HBX.out
      go_wp2_with fail
      have h1 := small_any x (w.alloc (.cells (nC x) 24))
      rw [HSM.out] at h1
      refine h1.mono ?_
      rintro e v1 ⟨rfl, N1⟩
      clear h1
      have D1 := N1
      clear c0 c1 c2 c3 c4 c5 c6 c7
      obtain ⟨c0, c1, c2, c3, c4, c5, c6, c7⟩ := HBX.out.aft D1
      go_wp2_with fail
      have h1 := valid_any x v1 (tabs_aft HT.out D1) (HW.out.aft D1) HZ.out
      rw [HV.out] at h1
      refine h1.mono ?_
      rintro e v2 ⟨rfl, N2⟩
      clear h1
      have D2 := D1.trans N2
      clear c0 c1 c2 c3 c4 c5 c6 c7
      go_wp2_with fail
      have h1 := awake_any v2 (tabs_aft HT.out D2)
      refine h1.mono ?_
      rintro e v3 ⟨rfl, N3⟩
      clear h1
      have D3 := D2.trans N3
      go_wp2
      go_ret
      exact ⟨by first | rfl | simp, HA.out.trans D3⟩
    · have HV := Lib.hid hv
      have hx := ok_of hv
      have HX := Lib.hid hx
      clear hv hx
      go_enter Tryd.func6, Tryd.ntmps6
      obtain ⟨c0, c1, c2, c3, c4, c5, c6, c7⟩ := HBX.out
      go_wp2_with fail
      have h1 := small_any x (w.alloc (.cells (nC x) 24))
      rw [HSM.out] at h1
      refine h1.mono ?_
      rintro e v1 ⟨rfl, N1⟩
      clear h1
      have D1 := N1
      clear c0 c1 c2 c3 c4 c5 c6 c7
      obtain ⟨c0, c1, c2, c3, c4, c5, c6, c7⟩ := HBX.out.aft D1
      go_wp2_with fail
      have h1 := valid_any x v1 (tabs_aft HT.out D1) (HW.out.aft D1) HZ.out
      rw [HV.out] at h1
      refine h1.mono ?_
      rintro e v2 ⟨rfl, N2⟩
      clear h1
      have D2 := D1.trans N2
      clear c0 c1 c2 c3 c4 c5 c6 c7
      have hz1 := wf_range16 hk1
      obtain ⟨j, hj⟩ : ∃ j : Nat, k1.tmod 10000 = (j : Int) := ⟨(k1.tmod 10000).toNat, by rw [Int.toNat_of_nonneg]; exact Int.tmod_nonneg _ hz1.1⟩
      have hj9 : j ≤ 9999 := by have := Int.tmod_lt_of_pos k1 (show (0 : Int) < 10000 by omega); omega
      have HW1 := Lib.hid (words_ok HV.out hj9)
      obtain ⟨c0, c1, c2, c3, c4, c5, c6, c7⟩ := HBX.out.aft D2
      go_wp2_with fail
      have h1 := words_any x (j : Int) v2 (tabs_aft HT.out D2) (HW.out.aft D2) HZ.out
      rw [HW1.out] at h1
      refine h1.mono ?_
      rintro e v3 ⟨⟨X1, n1, q1, rfl, r1⟩, N3⟩
      clear h1
      have D3 := D2.trans N3
      have R1 := Lib.hid (show Rw sV v3 X1 n1 q1 (wordsB x j) from r1)
      clear r1
      clear c0 c1 c2 c3 c4 c5 c6 c7
      obtain ⟨c0, c1, c2, c3, c4, c5, c6, c7⟩ := HBX.out.aft D3
      go_wp2_with fail
      have HPV := Lib.hid (show parseV x (wordsB x j) = numL x 3 (wordsB x j) by unfold parseV; rw [if_pos HV.out])
      have h1 := parse_any x X1 n1 q1 (wordsB x j) v3 (tabs_aft HT.out D3) (HW.out.aft D3) HZ.out R1.out
      rw [HPV.out] at h1
      refine h1.mono ?_
      rintro e v4 ⟨⟨X2, n2, q2, rfl, r2⟩, N4⟩
      clear h1
      have D4 := D3.trans N4
      have R2 := Lib.hid r2
      clear r2
      clear c0 c1 c2 c3 c4 c5 c6 c7
      have HRB := Lib.hid (reads_back (len_of HW.out HV.out) (k := j) (show j < 10000 by omega))
      generalize numL x 3 (wordsB x j) = Lst at *
      have RL1 := Lib.hid (fun w' (a : Aft v4 w') => R1.out.aft (N4.trans a))
      have HBP := Lib.hid (HBX.out.aft D4)
      have HTP := Lib.hid (tabs_aft HT.out D4)
      have HWP := Lib.hid (HW.out.aft D4)
      have HAP := Lib.hid (HA.out.trans D4)
      have h2le := R2.out.le
      have h2cm := R2.out.cmax
      have HLN := Lib.hid R2.out.len
      clear hk1 hz1 hj
      go_wp2
      go_loopw [9, 10] (fun f i wr => ∃ (k : Nat) (bb : Bool), k ≤ n2 ∧ i = .int .i64 (k : Nat) ∧ f = .bool bb ∧ bb = fndB (j : Int) Lst k ∧ Aft v4 wr) (fun _ i _ => n2 - (intOf i).toNat)
      case atStart => exact ⟨0, false, Nat.zero_le _, rfl, rfl, rfl, Aft.refl _⟩
      case round =>
        obtain ⟨k, bb, hk, rfl, rfl, hbb, haf⟩ := hrel
        have HBB := Lib.hid hbb
        have HAF := Lib.hid haf
        clear hbb haf
        by_cases hlt : k < n2
        · obtain ⟨bl, of, z, hX, hz, g1⟩ := R2.out.at_ hlt
          have hki : (k : Int) < (n2 : Int) := by omega
          obtain ⟨z0, z9, hwz⟩ := HRB.out.2.1 z (List.mem_of_getElem? hz)
          have HWZ := Lib.hid (show wordsV x z = (wordsB x j, 0) by rw [← hwz]; have h := words_ok (x := x) HV.out (n := z.toNat) (by omega); rwa [Int.toNat_of_nonneg z0] at h)
          have HFN := Lib.hid (fnd_next (j := (j : Int)) hz)
          have hHX := Lib.hid hX
          subst hX
          clear hwz z0 z9
          have HWC := Lib.hid (show ∀ w', Aft v4 w' → Calls Tryd.prog 18 #[nV x, .int .i64 z] w' (SlErr w' (wordsB x j) 0) from fun w' a => by have h := words_any x z w' (tabs_aft HTP.out a) (HWP.out.aft a) HZ.out; rw [HWZ.out] at h; exact h)
          go_wp2
          have HSX := Lib.hid (show ∀ w', Aft v4 w' → (fun w' => Aft v4 w' ∧ w'.cell? ⟨w.heap.size, 0, none⟩ = some (.int .i64 x.base) ∧ w'.cell? ⟨w.heap.size, 1, none⟩ = some (.slice x.da x.dn x.dc) ∧ w'.cell? ⟨w.heap.size, 2, none⟩ = some (.slice x.pa x.pn x.pc) ∧ w'.cell? ⟨w.heap.size, 3, none⟩ = some (.bool x.sf) ∧ w'.cell? ⟨w.heap.size, 4, none⟩ = some (.string x.jo) ∧ w'.cell? ⟨w.heap.size, 5, none⟩ = some (.int .i64 x.sub) ∧ w'.cell? ⟨w.heap.size, 6, none⟩ = some (.string x.le) ∧ w'.cell? ⟨w.heap.size, 7, none⟩ = some (.bool x.om) ∧ w'.cell? ⟨bl, of + k, none⟩ = some (.int .i64 z)) w' from fun w' a => ⟨a, (HBP.out.aft a).c0, (HBP.out.aft a).c1, (HBP.out.aft a).c2, (HBP.out.aft a).c3, (HBP.out.aft a).c4, (HBP.out.aft a).c5, (HBP.out.aft a).c6, (HBP.out.aft a).c7, a.cell g1⟩)
          refine wp_region_held_drew (S := fun w' => Aft v4 w' ∧ w'.cell? ⟨w.heap.size, 0, none⟩ = some (.int .i64 x.base) ∧ w'.cell? ⟨w.heap.size, 1, none⟩ = some (.slice x.da x.dn x.dc) ∧ w'.cell? ⟨w.heap.size, 2, none⟩ = some (.slice x.pa x.pn x.pc) ∧ w'.cell? ⟨w.heap.size, 3, none⟩ = some (.bool x.sf) ∧ w'.cell? ⟨w.heap.size, 4, none⟩ = some (.string x.jo) ∧ w'.cell? ⟨w.heap.size, 5, none⟩ = some (.int .i64 x.sub) ∧ w'.cell? ⟨w.heap.size, 6, none⟩ = some (.string x.le) ∧ w'.cell? ⟨w.heap.size, 7, none⟩ = some (.bool x.om) ∧ w'.cell? ⟨bl, of + k, none⟩ = some (.int .i64 z)) (by kernel_rfl) (HSX.out _ (by first | exact HAF.out | exact Aft.drewN HAF.out _ | exact Below.drew HAF.out)) (fun hHeld => ?_)
          refine take_on (i := 0) (v := ?v9053) rfl (by kernel_rfl) (by kernel_rfl) (by kernel_rfl) (fun _ _ _ h => h) (by rfl) (by assumption) ?y9053 ?_
          case y9053 => (intro w hSw; (try dsimp only at hSw); go_simp; (try with_reducible rfl))
          try simp only [Act.put, List.setIfInBounds_toArray, List.set_cons_zero, List.set_cons_succ]
          refine take_on (i := 1) (v := ?v9054) rfl (by kernel_rfl) (by kernel_rfl) (by kernel_rfl) (fun _ _ _ h => h) (by rfl) (by assumption) ?y9054 ?_
          case y9054 => (intro w hSw; (try dsimp only at hSw); go_simp; (try with_reducible rfl))
          try simp only [Act.put, List.setIfInBounds_toArray, List.set_cons_zero, List.set_cons_succ]
          refine take_on (i := 2) (v := ?v9055) rfl (by kernel_rfl) (by kernel_rfl) (by kernel_rfl) (fun _ _ _ h => h) (by rfl) (by assumption) ?y9055 ?_
          case y9055 => (intro w hSw; (try dsimp only at hSw); go_simp; (try with_reducible rfl))
          try simp only [Act.put, List.setIfInBounds_toArray, List.set_cons_zero, List.set_cons_succ]
          refine take_on (i := 3) (v := ?v9056) rfl (by kernel_rfl) (by kernel_rfl) (by kernel_rfl) (fun _ _ _ h => h) (by rfl) (by assumption) ?y9056 ?_
          case y9056 => (intro w hSw; (try dsimp only at hSw); go_simp; (try with_reducible rfl))
          try simp only [Act.put, List.setIfInBounds_toArray, List.set_cons_zero, List.set_cons_succ]
          refine take_on (i := 4) (v := ?v9057) rfl (by kernel_rfl) (by kernel_rfl) (by kernel_rfl) (fun _ _ _ h => h) (by rfl) (by assumption) ?y9057 ?_
          case y9057 => (intro w hSw; (try dsimp only at hSw); go_simp; (try with_reducible rfl))
          try simp only [Act.put, List.setIfInBounds_toArray, List.set_cons_zero, List.set_cons_succ]
          refine one_ready (i := 5) rfl (by kernel_rfl) (by rfl) (fun K hK => ?_)
          have hA9059 := Lib.hid hHeld.1
          go_simp
          go_at_call 18
          refine (HWC.out _ (by first | exact hA9059.out | exact Below.drew hA9059.out)).mono ?_
          rintro e' w9059 ⟨⟨X3, n3, q3, rfl, r3⟩, M9059⟩
          have C9059 := Lib.hid (show Aft v4 w9059 from Aft.trans (by first | exact hA9059.out | exact Below.drew hA9059.out) M9059)
          have R3 := Lib.hid (show Rw sV w9059 X3 n3 q3 (wordsB x j) from r3)
          clear r3
          try go_simp
          refine hK.out _ _ (HSX.out _ C9059.out) (fun hHeld => ?_)
          clear hK K
          try simp only [Act.put, List.setIfInBounds_toArray, List.set_cons_zero, List.set_cons_succ]
          refine take_on (i := 6) (v := ?v9060) rfl (by kernel_rfl) (by kernel_rfl) (by kernel_rfl) (fun _ _ _ h => h) (by rfl) (by assumption) ?y9060 ?_
          case y9060 => (intro w hSw; (try dsimp only at hSw); go_simp; (try with_reducible rfl))
          try simp only [Act.put, List.setIfInBounds_toArray, List.set_cons_zero, List.set_cons_succ]
          refine take_on (i := 7) (v := ?v9061) rfl (by kernel_rfl) (by kernel_rfl) (by kernel_rfl) (fun _ _ _ h => h) (by rfl) (by assumption) ?y9061 ?_
          case y9061 => (intro w hSw; (try dsimp only at hSw); go_simp; (try with_reducible rfl))
          try simp only [Act.put, List.setIfInBounds_toArray, List.set_cons_zero, List.set_cons_succ]
          refine take_on (i := 8) (v := ?v9062) rfl (by kernel_rfl) (by kernel_rfl) (by kernel_rfl) (fun _ _ _ h => h) (by rfl) (by assumption) ?y9062 ?_
          case y9062 => (intro w hSw; (try dsimp only at hSw); go_simp; (try with_reducible rfl))
          try simp only [Act.put, List.setIfInBounds_toArray, List.set_cons_zero, List.set_cons_succ]
          refine take_on (i := 9) (v := ?v9063) rfl (by kernel_rfl) (by kernel_rfl) (by kernel_rfl) (fun _ _ _ h => h) (by rfl) (by assumption) ?y9063 ?_
          case y9063 => (intro w hSw; (try dsimp only at hSw); go_simp; (try with_reducible rfl))
          try simp only [Act.put, List.setIfInBounds_toArray, List.set_cons_zero, List.set_cons_succ]
          refine take_on (i := 10) (v := ?v9064) rfl (by kernel_rfl) (by kernel_rfl) (by kernel_rfl) (fun _ _ _ h => h) (by rfl) (by assumption) ?y9064 ?_
          case y9064 => (intro w hSw; (try dsimp only at hSw); go_simp; (try with_reducible rfl))
          try simp only [Act.put, List.setIfInBounds_toArray, List.set_cons_zero, List.set_cons_succ]
          refine wpAnyH_done (by kernel_rfl) ?_ _
          have HAG := Lib.hid hHeld.1
          have HBN := Lib.hid (HBP.out.aft HAG.out)
          clear hHeld HSX
          rcases Nat.eq_zero_or_pos k with hk0 | hk0
          · subst hk0
            have HTX := Lib.hid (fun w' (a : Aft w9059 w') => (show Calls Tryd.prog 23 #[.slice X1 n1 q1, .slice X3 n3 q3] w' (BoolPost w' true) from by have h := texts_any X1 n1 q1 (wordsB x j) X3 n3 q3 (wordsB x j) w' (RL1.out w' (HAG.out.trans a)) (R3.out.aft a); rw [decide_eq_true rfl] at h; exact h))
            go_wp2
            have HSX := Lib.hid (show ∀ w', Aft w9059 w' → (fun w' => Aft w9059 w' ∧ w'.cell? ⟨w.heap.size, 0, none⟩ = some (.int .i64 x.base) ∧ w'.cell? ⟨w.heap.size, 1, none⟩ = some (.slice x.da x.dn x.dc) ∧ w'.cell? ⟨w.heap.size, 2, none⟩ = some (.slice x.pa x.pn x.pc) ∧ w'.cell? ⟨w.heap.size, 3, none⟩ = some (.bool x.sf) ∧ w'.cell? ⟨w.heap.size, 4, none⟩ = some (.string x.jo) ∧ w'.cell? ⟨w.heap.size, 5, none⟩ = some (.int .i64 x.sub) ∧ w'.cell? ⟨w.heap.size, 6, none⟩ = some (.string x.le) ∧ w'.cell? ⟨w.heap.size, 7, none⟩ = some (.bool x.om) ∧ w'.cell? ⟨bl, of + 0, none⟩ = some (.int .i64 z)) w' from fun w' a => ⟨a, (HBN.out.aft a).c0, (HBN.out.aft a).c1, (HBN.out.aft a).c2, (HBN.out.aft a).c3, (HBN.out.aft a).c4, (HBN.out.aft a).c5, (HBN.out.aft a).c6, (HBN.out.aft a).c7, (HAG.out.trans a).cell g1⟩)
            refine wp_region_held_drew (S := fun w' => Aft w9059 w' ∧ w'.cell? ⟨w.heap.size, 0, none⟩ = some (.int .i64 x.base) ∧ w'.cell? ⟨w.heap.size, 1, none⟩ = some (.slice x.da x.dn x.dc) ∧ w'.cell? ⟨w.heap.size, 2, none⟩ = some (.slice x.pa x.pn x.pc) ∧ w'.cell? ⟨w.heap.size, 3, none⟩ = some (.bool x.sf) ∧ w'.cell? ⟨w.heap.size, 4, none⟩ = some (.string x.jo) ∧ w'.cell? ⟨w.heap.size, 5, none⟩ = some (.int .i64 x.sub) ∧ w'.cell? ⟨w.heap.size, 6, none⟩ = some (.string x.le) ∧ w'.cell? ⟨w.heap.size, 7, none⟩ = some (.bool x.om) ∧ w'.cell? ⟨bl, of + 0, none⟩ = some (.int .i64 z)) (by kernel_rfl) (HSX.out _ (by first | exact Below.drew (Aft.refl _) | exact Aft.refl _)) (fun hHeld => ?_)
            refine take_on (i := 0) (v := ?v9065) rfl (by kernel_rfl) (by kernel_rfl) (by kernel_rfl) (fun _ _ _ h => h) (by rfl) (by assumption) ?y9065 ?_
            case y9065 => (intro w hSw; (try dsimp only at hSw); go_simp; (try with_reducible rfl))
            try simp only [Act.put, List.setIfInBounds_toArray, List.set_cons_zero, List.set_cons_succ]
            refine take_on (i := 1) (v := ?v9066) rfl (by kernel_rfl) (by kernel_rfl) (by kernel_rfl) (fun _ _ _ h => h) (by rfl) (by assumption) ?y9066 ?_
            case y9066 => (intro w hSw; (try dsimp only at hSw); go_simp; (try with_reducible rfl))
            try simp only [Act.put, List.setIfInBounds_toArray, List.set_cons_zero, List.set_cons_succ]
            refine take_on (i := 2) (v := ?v9067) rfl (by kernel_rfl) (by kernel_rfl) (by kernel_rfl) (fun _ _ _ h => h) (by rfl) (by assumption) ?y9067 ?_
            case y9067 => (intro w hSw; (try dsimp only at hSw); go_simp; (try with_reducible rfl))
            try simp only [Act.put, List.setIfInBounds_toArray, List.set_cons_zero, List.set_cons_succ]
            refine take_on (i := 3) (v := ?v9068) rfl (by kernel_rfl) (by kernel_rfl) (by kernel_rfl) (fun _ _ _ h => h) (by rfl) (by assumption) ?y9068 ?_
            case y9068 => (intro w hSw; (try dsimp only at hSw); go_simp; (try with_reducible rfl))
            try simp only [Act.put, List.setIfInBounds_toArray, List.set_cons_zero, List.set_cons_succ]
            refine take_on (i := 4) (v := ?v9069) rfl (by kernel_rfl) (by kernel_rfl) (by kernel_rfl) (fun _ _ _ h => h) (by rfl) (by assumption) ?y9069 ?_
            case y9069 => (intro w hSw; (try dsimp only at hSw); go_simp; (try with_reducible rfl))
            try simp only [Act.put, List.setIfInBounds_toArray, List.set_cons_zero, List.set_cons_succ]
            refine one_ready (i := 5) rfl (by kernel_rfl) (by rfl) (fun K hK => ?_)
            have hA9071 := Lib.hid hHeld.1
            go_simp
            go_at_call 23
            refine (HTX.out _ (by first | exact hA9071.out | exact Below.drew hA9071.out)).mono ?_
            rintro e' w9071 ⟨rfl, M9071⟩
            have C9071 := Lib.hid (show Aft w9059 w9071 from Aft.trans (by first | exact hA9071.out | exact Below.drew hA9071.out) M9071)
            try go_simp
            refine hK.out _ _ (HSX.out _ C9071.out) (fun hHeld => ?_)
            clear hK K
            try simp only [Act.put, List.setIfInBounds_toArray, List.set_cons_zero, List.set_cons_succ]
            refine take_on (i := 6) (v := ?v9072) rfl (by kernel_rfl) (by kernel_rfl) (by kernel_rfl) (fun _ _ _ h => h) (by rfl) (by assumption) ?y9072 ?_
            case y9072 => (intro w hSw; (try dsimp only at hSw); go_simp; (try with_reducible rfl))
            try simp only [Act.put, List.setIfInBounds_toArray, List.set_cons_zero, List.set_cons_succ]
            refine take_on (i := 7) (v := ?v9073) rfl (by kernel_rfl) (by kernel_rfl) (by kernel_rfl) (fun _ _ _ h => h) (by rfl) (by assumption) ?y9073 ?_
            case y9073 => (intro w hSw; (try dsimp only at hSw); go_simp; (try with_reducible rfl))
            try simp only [Act.put, List.setIfInBounds_toArray, List.set_cons_zero, List.set_cons_succ]
            refine take_on (i := 8) (v := ?v9074) rfl (by kernel_rfl) (by kernel_rfl) (by kernel_rfl) (fun _ _ _ h => h) (by rfl) (by assumption) ?y9074 ?_
            case y9074 => (intro w hSw; (try dsimp only at hSw); go_simp; (try with_reducible rfl))
            try simp only [Act.put, List.setIfInBounds_toArray, List.set_cons_zero, List.set_cons_succ]
            refine take_on (i := 9) (v := ?v9075) rfl (by kernel_rfl) (by kernel_rfl) (by kernel_rfl) (fun _ _ _ h => h) (by rfl) (by assumption) ?y9075 ?_
            case y9075 => (intro w hSw; (try dsimp only at hSw); go_simp; (try with_reducible rfl))
            try simp only [Act.put, List.setIfInBounds_toArray, List.set_cons_zero, List.set_cons_succ]
            refine take_on (i := 10) (v := ?v9076) rfl (by kernel_rfl) (by kernel_rfl) (by kernel_rfl) (fun _ _ _ h => h) (by rfl) (by assumption) ?y9076 ?_
            case y9076 => (intro w hSw; (try dsimp only at hSw); go_simp; (try with_reducible rfl))
            try simp only [Act.put, List.setIfInBounds_toArray, List.set_cons_zero, List.set_cons_succ]
            refine take_on (i := 11) (v := ?v9077) rfl (by kernel_rfl) (by kernel_rfl) (by kernel_rfl) (fun _ _ _ h => h) (by rfl) (by assumption) ?y9077 ?_
            case y9077 => (intro w hSw; (try dsimp only at hSw); go_simp; (try with_reducible rfl))
            try simp only [Act.put, List.setIfInBounds_toArray, List.set_cons_zero, List.set_cons_succ]
            refine take_off (i := 12) rfl (by kernel_rfl) (by kernel_rfl) (by kernel_rfl) (fun _ _ _ h => h) (by rfl) (by assumption) ?_
            try simp only [Act.put, List.setIfInBounds_toArray, List.set_cons_zero, List.set_cons_succ]
            refine take_off (i := 13) rfl (by kernel_rfl) (by kernel_rfl) (by kernel_rfl) (fun _ _ _ h => h) (by rfl) (by assumption) ?_
            try simp only [Act.put, List.setIfInBounds_toArray, List.set_cons_zero, List.set_cons_succ]
            refine take_off (i := 14) rfl (by kernel_rfl) (by kernel_rfl) (by kernel_rfl) (fun _ _ _ h => h) (by rfl) (by assumption) ?_
            try simp only [Act.put, List.setIfInBounds_toArray, List.set_cons_zero, List.set_cons_succ]
            refine take_off (i := 15) rfl (by kernel_rfl) (by kernel_rfl) (by kernel_rfl) (fun _ _ _ h => h) (by rfl) (by assumption) ?_
            try simp only [Act.put, List.setIfInBounds_toArray, List.set_cons_zero, List.set_cons_succ]
            refine take_off (i := 16) rfl (by kernel_rfl) (by kernel_rfl) (by kernel_rfl) (fun _ _ _ h => h) (by rfl) (by assumption) ?_
            try simp only [Act.put, List.setIfInBounds_toArray, List.set_cons_zero, List.set_cons_succ]
            refine take_off (i := 17) rfl (by kernel_rfl) (by kernel_rfl) (by kernel_rfl) (fun _ _ _ h => h) (by rfl) (by assumption) ?_
            try simp only [Act.put, List.setIfInBounds_toArray, List.set_cons_zero, List.set_cons_succ]
            refine take_off (i := 18) rfl (by kernel_rfl) (by kernel_rfl) (by kernel_rfl) (fun _ _ _ h => h) (by rfl) (by assumption) ?_
            try simp only [Act.put, List.setIfInBounds_toArray, List.set_cons_zero, List.set_cons_succ]
            refine take_off (i := 19) rfl (by kernel_rfl) (by kernel_rfl) (by kernel_rfl) (fun _ _ _ h => h) (by rfl) (by assumption) ?_
            try simp only [Act.put, List.setIfInBounds_toArray, List.set_cons_zero, List.set_cons_succ]
            refine take_off (i := 20) rfl (by kernel_rfl) (by kernel_rfl) (by kernel_rfl) (fun _ _ _ h => h) (by rfl) (by assumption) ?_
            try simp only [Act.put, List.setIfInBounds_toArray, List.set_cons_zero, List.set_cons_succ]
            refine take_off (i := 21) rfl (by kernel_rfl) (by kernel_rfl) (by kernel_rfl) (fun _ _ _ h => h) (by rfl) (by assumption) ?_
            try simp only [Act.put, List.setIfInBounds_toArray, List.set_cons_zero, List.set_cons_succ]
            refine take_on (i := 22) (v := ?v9088) rfl (by kernel_rfl) (by kernel_rfl) (by kernel_rfl) (fun _ _ _ h => h) (by rfl) (by assumption) ?y9088 ?_
            case y9088 => (intro w hSw; (try dsimp only at hSw); go_simp; (try with_reducible rfl))
            try simp only [Act.put, List.setIfInBounds_toArray, List.set_cons_zero, List.set_cons_succ]
            refine take_on (i := 23) (v := ?v9089) rfl (by kernel_rfl) (by kernel_rfl) (by kernel_rfl) (fun _ _ _ h => h) (by rfl) (by assumption) ?y9089 ?_
            case y9089 => (intro w hSw; (try dsimp only at hSw); go_simp; (try with_reducible rfl))
            try simp only [Act.put, List.setIfInBounds_toArray, List.set_cons_zero, List.set_cons_succ]
            refine wpAnyH_done (by kernel_rfl) ?_ _
            have HAH := Lib.hid (HAG.out.trans hHeld.1)
            clear hHeld HSX
            have g9 := HAH.out.cell (show v4.cell? ⟨bl, of, none⟩ = some (.int .i64 z) from g1)
            cases bb
            · by_cases hzj : z = (j : Int)
              · have p1 : (z == (j : Int)) = true := by simp [hzj]
                have HFV := Lib.hid (show fndB (j : Int) Lst (0 + 1) = true by rw [HFN.out, ← HBB.out, p1]; rfl)
                clear hzj
                go_wp2
                go_roundw
                case rel => exact ⟨0 + 1, true, by omega, by go_num, by first | rfl | simp [p1], HFV.out.symm, HAH.out⟩
                case measure => simp [intOf]; omega
              · have p1 : (z == (j : Int)) = false := by simp [hzj]
                have HFV := Lib.hid (show fndB (j : Int) Lst (0 + 1) = false by rw [HFN.out, ← HBB.out, p1]; rfl)
                clear hzj
                go_wp2
                go_roundw
                case rel => exact ⟨0 + 1, false, by omega, by go_num, by first | rfl | simp [p1], HFV.out.symm, HAH.out⟩
                case measure => simp [intOf]; omega
            · have HFV := Lib.hid (show fndB (j : Int) Lst (0 + 1) = true by rw [HFN.out, ← HBB.out]; rfl)
              go_wp2
              go_roundw
              case rel => exact ⟨0 + 1, true, by omega, by go_num, rfl, HFV.out.symm, HAH.out⟩
              case measure => simp [intOf]; omega
          · obtain ⟨kp, hkp⟩ : ∃ kp, k = kp + 1 := ⟨k - 1, by omega⟩
            obtain ⟨bl', of', y, e', hy, g2⟩ := R2.out.at_ (k := kp) (by omega)
            cases e'
            have hk1' : (k : Int) - 1 = (kp : Int) := by omega
            have hwk : IntKind.i64.wrap (kp : Int) = (kp : Int) := wrap_small _ (by omega) (by omega)
            have hkpn : (kp : Int) < (n2 : Int) := by omega
            have hk0' : (0 : Int) < (k : Int) := by omega
            have hyz : ¬ z ≤ y := by have h := asc_at HRB.out.2.2 hy (by rw [← hkp]; exact hz); omega
            have hHK := Lib.hid hkp
            clear hkp hy
            have HTX := Lib.hid (fun w' (a : Aft w9059 w') => (show Calls Tryd.prog 23 #[.slice X1 n1 q1, .slice X3 n3 q3] w' (BoolPost w' true) from by have h := texts_any X1 n1 q1 (wordsB x j) X3 n3 q3 (wordsB x j) w' (RL1.out w' (HAG.out.trans a)) (R3.out.aft a); rw [decide_eq_true rfl] at h; exact h))
            go_wp2
            have HSX := Lib.hid (show ∀ w', Aft w9059 w' → (fun w' => Aft w9059 w' ∧ w'.cell? ⟨w.heap.size, 0, none⟩ = some (.int .i64 x.base) ∧ w'.cell? ⟨w.heap.size, 1, none⟩ = some (.slice x.da x.dn x.dc) ∧ w'.cell? ⟨w.heap.size, 2, none⟩ = some (.slice x.pa x.pn x.pc) ∧ w'.cell? ⟨w.heap.size, 3, none⟩ = some (.bool x.sf) ∧ w'.cell? ⟨w.heap.size, 4, none⟩ = some (.string x.jo) ∧ w'.cell? ⟨w.heap.size, 5, none⟩ = some (.int .i64 x.sub) ∧ w'.cell? ⟨w.heap.size, 6, none⟩ = some (.string x.le) ∧ w'.cell? ⟨w.heap.size, 7, none⟩ = some (.bool x.om) ∧ w'.cell? ⟨bl, of + k, none⟩ = some (.int .i64 z) ∧ w'.cell? ⟨bl, of + kp, none⟩ = some (.int .i64 y)) w' from fun w' a => ⟨a, (HBN.out.aft a).c0, (HBN.out.aft a).c1, (HBN.out.aft a).c2, (HBN.out.aft a).c3, (HBN.out.aft a).c4, (HBN.out.aft a).c5, (HBN.out.aft a).c6, (HBN.out.aft a).c7, (HAG.out.trans a).cell g1, (HAG.out.trans a).cell g2⟩)
            refine wp_region_held_drew (S := fun w' => Aft w9059 w' ∧ w'.cell? ⟨w.heap.size, 0, none⟩ = some (.int .i64 x.base) ∧ w'.cell? ⟨w.heap.size, 1, none⟩ = some (.slice x.da x.dn x.dc) ∧ w'.cell? ⟨w.heap.size, 2, none⟩ = some (.slice x.pa x.pn x.pc) ∧ w'.cell? ⟨w.heap.size, 3, none⟩ = some (.bool x.sf) ∧ w'.cell? ⟨w.heap.size, 4, none⟩ = some (.string x.jo) ∧ w'.cell? ⟨w.heap.size, 5, none⟩ = some (.int .i64 x.sub) ∧ w'.cell? ⟨w.heap.size, 6, none⟩ = some (.string x.le) ∧ w'.cell? ⟨w.heap.size, 7, none⟩ = some (.bool x.om) ∧ w'.cell? ⟨bl, of + k, none⟩ = some (.int .i64 z) ∧ w'.cell? ⟨bl, of + kp, none⟩ = some (.int .i64 y)) (by kernel_rfl) (HSX.out _ (by first | exact Below.drew (Aft.refl _) | exact Aft.refl _)) (fun hHeld => ?_)
            refine take_on (i := 0) (v := ?v9090) rfl (by kernel_rfl) (by kernel_rfl) (by kernel_rfl) (fun _ _ _ h => h) (by rfl) (by assumption) ?y9090 ?_
            case y9090 => (intro w hSw; (try dsimp only at hSw); go_simp; (try with_reducible rfl))
            try simp only [Act.put, List.setIfInBounds_toArray, List.set_cons_zero, List.set_cons_succ]
            refine take_on (i := 1) (v := ?v9091) rfl (by kernel_rfl) (by kernel_rfl) (by kernel_rfl) (fun _ _ _ h => h) (by rfl) (by assumption) ?y9091 ?_
            case y9091 => (intro w hSw; (try dsimp only at hSw); go_simp; (try with_reducible rfl))
            try simp only [Act.put, List.setIfInBounds_toArray, List.set_cons_zero, List.set_cons_succ]
            refine take_on (i := 2) (v := ?v9092) rfl (by kernel_rfl) (by kernel_rfl) (by kernel_rfl) (fun _ _ _ h => h) (by rfl) (by assumption) ?y9092 ?_
            case y9092 => (intro w hSw; (try dsimp only at hSw); go_simp; (try with_reducible rfl))
            try simp only [Act.put, List.setIfInBounds_toArray, List.set_cons_zero, List.set_cons_succ]
            refine take_on (i := 3) (v := ?v9093) rfl (by kernel_rfl) (by kernel_rfl) (by kernel_rfl) (fun _ _ _ h => h) (by rfl) (by assumption) ?y9093 ?_
            case y9093 => (intro w hSw; (try dsimp only at hSw); go_simp; (try with_reducible rfl))
            try simp only [Act.put, List.setIfInBounds_toArray, List.set_cons_zero, List.set_cons_succ]
            refine take_on (i := 4) (v := ?v9094) rfl (by kernel_rfl) (by kernel_rfl) (by kernel_rfl) (fun _ _ _ h => h) (by rfl) (by assumption) ?y9094 ?_
            case y9094 => (intro w hSw; (try dsimp only at hSw); go_simp; (try with_reducible rfl))
            try simp only [Act.put, List.setIfInBounds_toArray, List.set_cons_zero, List.set_cons_succ]
            refine one_ready (i := 5) rfl (by kernel_rfl) (by rfl) (fun K hK => ?_)
            have hA9096 := Lib.hid hHeld.1
            go_simp
            go_at_call 23
            refine (HTX.out _ (by first | exact hA9096.out | exact Below.drew hA9096.out)).mono ?_
            rintro e' w9096 ⟨rfl, M9096⟩
            have C9096 := Lib.hid (show Aft w9059 w9096 from Aft.trans (by first | exact hA9096.out | exact Below.drew hA9096.out) M9096)
            try go_simp
            refine hK.out _ _ (HSX.out _ C9096.out) (fun hHeld => ?_)
            clear hK K
            try simp only [Act.put, List.setIfInBounds_toArray, List.set_cons_zero, List.set_cons_succ]
            refine take_on (i := 6) (v := ?v9097) rfl (by kernel_rfl) (by kernel_rfl) (by kernel_rfl) (fun _ _ _ h => h) (by rfl) (by assumption) ?y9097 ?_
            case y9097 => (intro w hSw; (try dsimp only at hSw); go_simp; (try with_reducible rfl))
            try simp only [Act.put, List.setIfInBounds_toArray, List.set_cons_zero, List.set_cons_succ]
            refine take_on (i := 7) (v := ?v9098) rfl (by kernel_rfl) (by kernel_rfl) (by kernel_rfl) (fun _ _ _ h => h) (by rfl) (by assumption) ?y9098 ?_
            case y9098 => (intro w hSw; (try dsimp only at hSw); go_simp; (try with_reducible rfl))
            try simp only [Act.put, List.setIfInBounds_toArray, List.set_cons_zero, List.set_cons_succ]
            refine take_on (i := 8) (v := ?v9099) rfl (by kernel_rfl) (by kernel_rfl) (by kernel_rfl) (fun _ _ _ h => h) (by rfl) (by assumption) ?y9099 ?_
            case y9099 => (intro w hSw; (try dsimp only at hSw); go_simp; (try with_reducible rfl))
            try simp only [Act.put, List.setIfInBounds_toArray, List.set_cons_zero, List.set_cons_succ]
            refine take_on (i := 9) (v := ?v9100) rfl (by kernel_rfl) (by kernel_rfl) (by kernel_rfl) (fun _ _ _ h => h) (by rfl) (by assumption) ?y9100 ?_
            case y9100 => (intro w hSw; (try dsimp only at hSw); go_simp; (try with_reducible rfl))
            try simp only [Act.put, List.setIfInBounds_toArray, List.set_cons_zero, List.set_cons_succ]
            refine take_on (i := 10) (v := ?v9101) rfl (by kernel_rfl) (by kernel_rfl) (by kernel_rfl) (fun _ _ _ h => h) (by rfl) (by assumption) ?y9101 ?_
            case y9101 => (intro w hSw; (try dsimp only at hSw); go_simp; (try with_reducible rfl))
            try simp only [Act.put, List.setIfInBounds_toArray, List.set_cons_zero, List.set_cons_succ]
            refine take_on (i := 11) (v := ?v9102) rfl (by kernel_rfl) (by kernel_rfl) (by kernel_rfl) (fun _ _ _ h => h) (by rfl) (by assumption) ?y9102 ?_
            case y9102 => (intro w hSw; (try dsimp only at hSw); go_simp; (try with_reducible rfl))
            try simp only [Act.put, List.setIfInBounds_toArray, List.set_cons_zero, List.set_cons_succ]
            refine take_on (i := 12) (v := ?v9103) rfl (by kernel_rfl) (by kernel_rfl) (by kernel_rfl) (fun _ _ _ h => h) (by rfl) (by assumption) ?y9103 ?_
            case y9103 => (intro w hSw; (try dsimp only at hSw); go_simp; (try with_reducible rfl))
            try simp only [Act.put, List.setIfInBounds_toArray, List.set_cons_zero, List.set_cons_succ]
            refine take_on (i := 13) (v := ?v9104) rfl (by kernel_rfl) (by kernel_rfl) (by kernel_rfl) (fun _ _ _ h => h) (by rfl) (by assumption) ?y9104 ?_
            case y9104 => (intro w hSw; (try dsimp only at hSw); go_simp; (try with_reducible rfl))
            try simp only [Act.put, List.setIfInBounds_toArray, List.set_cons_zero, List.set_cons_succ]
            refine take_on (i := 14) (v := ?v9105) rfl (by kernel_rfl) (by kernel_rfl) (by kernel_rfl) (fun _ _ _ h => h) (by rfl) (by assumption) ?y9105 ?_
            case y9105 => (intro w hSw; (try dsimp only at hSw); go_simp; (try with_reducible rfl))
            try simp only [Act.put, List.setIfInBounds_toArray, List.set_cons_zero, List.set_cons_succ]
            refine take_on (i := 15) (v := ?v9106) rfl (by kernel_rfl) (by kernel_rfl) (by kernel_rfl) (fun _ _ _ h => h) (by rfl) (by assumption) ?y9106 ?_
            case y9106 => (intro w hSw; (try dsimp only at hSw); go_simp; (try with_reducible rfl))
            try simp only [Act.put, List.setIfInBounds_toArray, List.set_cons_zero, List.set_cons_succ]
            refine take_on (i := 16) (v := ?v9107) rfl (by kernel_rfl) (by kernel_rfl) (by kernel_rfl) (fun _ _ _ h => h) (by rfl) (by assumption) ?y9107 ?_
            case y9107 => (intro w hSw; (try dsimp only at hSw); go_simp; (try with_reducible rfl))
            try simp only [Act.put, List.setIfInBounds_toArray, List.set_cons_zero, List.set_cons_succ]
            refine take_on (i := 17) (v := ?v9108) rfl (by kernel_rfl) (by kernel_rfl) (by kernel_rfl) (fun _ _ _ h => h) (by rfl) (by assumption) ?y9108 ?_
            case y9108 => (intro w hSw; (try dsimp only at hSw); go_simp; (try with_reducible rfl))
            try simp only [Act.put, List.setIfInBounds_toArray, List.set_cons_zero, List.set_cons_succ]
            refine take_on (i := 18) (v := ?v9109) rfl (by kernel_rfl) (by kernel_rfl) (by kernel_rfl) (fun _ _ _ h => h) (by rfl) (by assumption) ?y9109 ?_
            case y9109 => (intro w hSw; (try dsimp only at hSw); go_simp; (try with_reducible rfl))
            try simp only [Act.put, List.setIfInBounds_toArray, List.set_cons_zero, List.set_cons_succ]
            refine take_on (i := 19) (v := ?v9110) rfl (by kernel_rfl) (by kernel_rfl) (by kernel_rfl) (fun _ _ _ h => h) (by rfl) (by assumption) ?y9110 ?_
            case y9110 => (intro w hSw; (try dsimp only at hSw); go_simp; (try with_reducible rfl))
            try simp only [Act.put, List.setIfInBounds_toArray, List.set_cons_zero, List.set_cons_succ]
            refine take_on (i := 20) (v := ?v9111) rfl (by kernel_rfl) (by kernel_rfl) (by kernel_rfl) (fun _ _ _ h => h) (by rfl) (by assumption) ?y9111 ?_
            case y9111 => (intro w hSw; (try dsimp only at hSw); go_simp; (try with_reducible rfl))
            try simp only [Act.put, List.setIfInBounds_toArray, List.set_cons_zero, List.set_cons_succ]
            refine take_on (i := 21) (v := ?v9112) rfl (by kernel_rfl) (by kernel_rfl) (by kernel_rfl) (fun _ _ _ h => h) (by rfl) (by assumption) ?y9112 ?_
            case y9112 => (intro w hSw; (try dsimp only at hSw); go_simp; (try with_reducible rfl))
            try simp only [Act.put, List.setIfInBounds_toArray, List.set_cons_zero, List.set_cons_succ]
            refine take_on (i := 22) (v := ?v9113) rfl (by kernel_rfl) (by kernel_rfl) (by kernel_rfl) (fun _ _ _ h => h) (by rfl) (by assumption) ?y9113 ?_
            case y9113 => (intro w hSw; (try dsimp only at hSw); go_simp; (try with_reducible rfl))
            try simp only [Act.put, List.setIfInBounds_toArray, List.set_cons_zero, List.set_cons_succ]
            refine take_on (i := 23) (v := ?v9114) rfl (by kernel_rfl) (by kernel_rfl) (by kernel_rfl) (fun _ _ _ h => h) (by rfl) (by assumption) ?y9114 ?_
            case y9114 => (intro w hSw; (try dsimp only at hSw); go_simp; (try with_reducible rfl))
            try simp only [Act.put, List.setIfInBounds_toArray, List.set_cons_zero, List.set_cons_succ]
            refine wpAnyH_done (by kernel_rfl) ?_ _
            have HAH := Lib.hid (HAG.out.trans hHeld.1)
            clear hHeld HSX
            have g9 := HAH.out.cell (show v4.cell? ⟨bl, of + k, none⟩ = some (.int .i64 z) from g1)
            cases bb
            · by_cases hzj : z = (j : Int)
              · have p1 : (z == (j : Int)) = true := by simp [hzj]
                have HFV := Lib.hid (show fndB (j : Int) Lst (k + 1) = true by rw [HFN.out, ← HBB.out, p1]; rfl)
                clear hzj
                go_wp2
                go_roundw
                case rel => exact ⟨k + 1, true, by omega, by go_num, by first | rfl | simp [p1], HFV.out.symm, HAH.out⟩
                case measure => simp [intOf]; omega
              · have p1 : (z == (j : Int)) = false := by simp [hzj]
                have HFV := Lib.hid (show fndB (j : Int) Lst (k + 1) = false by rw [HFN.out, ← HBB.out, p1]; rfl)
                clear hzj
                go_wp2
                go_roundw
                case rel => exact ⟨k + 1, false, by omega, by go_num, by first | rfl | simp [p1], HFV.out.symm, HAH.out⟩
                case measure => simp [intOf]; omega
            · have HFV := Lib.hid (show fndB (j : Int) Lst (k + 1) = true by rw [HFN.out, ← HBB.out]; rfl)
              go_wp2
              go_roundw
              case rel => exact ⟨k + 1, true, by omega, by go_num, rfl, HFV.out.symm, HAH.out⟩
              case measure => simp [intOf]; omega
        · obtain rfl : k = n2 := by omega
          have HFT := Lib.hid (show bb = true by rw [HBB.out]; exact fnd_all HLN.out HRB.out.1)
          have hbt := HFT.out
          subst hbt
          go_wp2_with fail
          refine (awake_any _ (tabs_aft HTP.out HAF.out)).mono ?_
          rintro e v9 ⟨rfl, N9⟩
          go_wp2
          go_ret
          exact ⟨by first | rfl | simp, HAP.out.trans (HAF.out.trans N9)⟩
  · have HSM := Lib.hid (small_no hsm)
    clear hsm
    go_enter Tryd.func6, Tryd.ntmps6
    obtain ⟨c0, c1, c2, c3, c4, c5, c6, c7⟩ := HBX.out
    go_wp2_with fail
    have h1 := small_any x (w.alloc (.cells (nC x) 24))
    rw [HSM.out] at h1
    refine h1.mono ?_
    rintro e v1 ⟨rfl, N1⟩
    clear h1
    have D1 := N1
    clear c0 c1 c2 c3 c4 c5 c6 c7
    go_wp2_with fail
    have h1 := awake_any v1 (tabs_aft HT.out D1)
    refine h1.mono ?_
    rintro e v2 ⟨rfl, N2⟩
    clear h1
    have D2 := D1.trans N2
    go_wp2
    go_ret
    exact ⟨by first | rfl | simp, HA.out.trans D2⟩

theorem own : ownKnob Tryd.prog.godebug = none := by kernel_rfl
theorem laidOut : laidOutB Tryd.prog = true := by kernel_rfl

set_option maxRecDepth 100000 in
theorem contract (H : Type) (enc : TypeId × Value → H) (W : World) (base : Nat) (args : Array Value) (ds gs : List (DataW H)) (before : List MemPlace)
    (hval : ∀ (j : Nat) t v, Tryd.f6.params[j]? = some t → args[j]? = some v → Value.okWide Tryd.prog W .any base t v)
    (hW : DataW.Whole enc Tryd.prog Tryd.f6.params.toList Rows.numeralReadsBackSpec.vars false W args.toList ds gs before) (hsz0 : (DataW.weightsEach Tryd.prog (Tryd.f6.params.toList ++ Rows.numeralReadsBackSpec.plain.varTypes Tryd.prog) (ds ++ gs)).all (· ≤ reachBytes) = true) (hL : laidMetH Tryd.prog listed W) :
    Calls Tryd.prog 6 args W fun e W' => ∃ v, e = .returned v ∧ Rows.numeralReadsBackSpec.post enc Tryd.prog Tryd.f6 false true false false W args v W' := by
  have hW' := hW
  obtain ⟨p, q, hA0, hV, rfl, hfz, hnd⟩ := hW
  have hA : DataW.TrodAll enc Tryd.prog W 0 (fun _ => true) true Tryd.f6.params.toList args.toList ds p := hA0
  have hsz := hsz0
  rw [Tryd.params6] at hA hval hsz
  obtain ⟨v0, vs0, d0, ds0, p0, q0, hargs, rfl, rfl, h0, r0⟩ := trodAll_cons hA
  obtain ⟨v1, vs1, d1, ds1, p1, q1, rfl, rfl, rfl, h1, r1⟩ := trodAll_cons r0
  obtain ⟨rfl, rfl, rfl⟩ := trodAll_nil r1
  obtain rfl : args = #[v0, v1] := by cases args; simp_all
  obtain ⟨rfl, rfl⟩ := trodVars_none hV
  have lt0 : ∀ x ∈ p0, x.block < W.heap.size := by obtain ⟨m, hm⟩ := h0; exact DataW.trod_lt m _ _ _ hm
  obtain ⟨xs0, rfl, sn0, sz0, zb0, zs0⟩ := sys_of (okWide_struct Tryd.underlying24 (hval 0 24 v0 rfl rfl)) h0
  obtain ⟨xs1, rfl, rfl, rfl, z1⟩ := open_int Tryd.underlying43 (hval 1 43 v1 rfl rfl) h1
  clear hA0
  refine (walk xs0 xs1 W (tabs_of hL) sn0 sz0 zb0 zs0 z1).mono fun e W' ⟨he, bel⟩ => ?_
  subst he
  exact ⟨_, rfl, _, _, _, [], _, [], hW', trodAll_mk1 (shut_bool Tryd.underlying4 _), (trodAll_cons_mk (Below.trod laidOut (by kernel_rfl) (of_decide_eq_true (by kernel_rfl)) h0 bel lt0) (trodAll_cons_mk (shut_int Tryd.underlying43 z1) trodAll_mk0)), rfl, Below.frame bel _, fun h => by cases h⟩

theorem witness_row (os : Os) {H : Type} (enc : TypeId × Value → H) :
    (OpenSpec.ofChange Rows.numeralReadsBackSpec).preRow enc Tryd.prog Tryd.f6 Rows.numeralReadsBackRow.domain false Rows.numeralReadsBackRow.laid ((laidWorld os).forCall (fun _ _ => 0) ⟨#[], #[.agg #[.int .i64 0, .slice none 0 0, .slice none 0 0, .bool false, .string ⟨#[]⟩, .int .i64 0, .string ⟨#[]⟩, .bool false], .int .u16 0], []⟩).memory #[.agg #[.int .i64 0, .slice none 0 0, .slice none 0 0, .bool false, .string ⟨#[]⟩, .int .i64 0, .string ⟨#[]⟩, .bool false], .int .u16 0] := by
  have hw : (DataW.whole enc Tryd.prog ((laidWorld os).forCall (fun _ _ => 0) ⟨#[], #[.agg #[.int .i64 0, .slice none 0 0, .slice none 0 0, .bool false, .string ⟨#[]⟩, .int .i64 0, .string ⟨#[]⟩, .bool false], .int .u16 0], []⟩).memory Tryd.f6.params.toList Rows.numeralReadsBackSpec.vars false (#[.agg #[.int .i64 0, .slice none 0 0, .slice none 0 0, .bool false, .string ⟨#[]⟩, .int .i64 0, .string ⟨#[]⟩, .bool false], .int .u16 0] : Array Value).toList 8).map (fun x => (x.1, x.2.1)) =
      some ([.agg [.lit (.int .i64 0), .nil, .nil, .lit (.bool false), .lit (.string []), .lit (.int .i64 0), .lit (.string []), .lit (.bool false)], .lit (.int .u16 0)], []) := by kernel_rfl
  obtain ⟨⟨x1, x2, x3⟩, hx, hx1⟩ := Option.map_eq_some_iff.1 hw
  simp only [Prod.mk.injEq] at hx1
  obtain ⟨rfl, rfl⟩ := hx1
  exact OpenSpec.preRow_of_cond 8 hx (by kernel_rfl) (fun k hk => by cases hk) (by kernel_rfl) (laid_met os _)

set_option maxRecDepth 100000 in
theorem lifted (os : Os) (started : os.Started) (H : Type) (enc : TypeId × Value → H) (F : Stop.Interp) :
    ReturnsInHanded {} Tryd.checked os 6 .any ((OpenSpec.ofChange Rows.numeralReadsBackSpec).preRow enc Tryd.prog Tryd.f6 Rows.numeralReadsBackRow.domain false Rows.numeralReadsBackRow.laid) (((OpenSpec.ofChange Rows.numeralReadsBackSpec).at F).post enc Tryd.prog Tryd.f6 false true false false) := by
  refine returnsInHanded_of_row (C := Tryd.checked) (s := (OpenSpec.ofChange Rows.numeralReadsBackSpec)) own started (by kernel_rfl) Tryd.func6
    (witness_row_atRef (enc := enc) (C := Tryd.checked) false (laidWorld os) #[.agg #[.int .i64 0, .slice none 0 0, .slice none 0 0, .bool false, .string ⟨#[]⟩, .int .i64 0, .string ⟨#[]⟩, .bool false], .int .u16 0] rfl (by kernel_rfl) (by kernel_rfl) (by kernel_rfl) (witness_row os enc)) ?_
  intro W base args ds gs before hval hW _ _ hsz hL _ _
  exact contract H enc W base args ds gs before hval hW hsz hL

theorem row : Rows.NumeralReadsBackSaid :=
  OpenClaim.holds_of_cond 6 Tryd.f6 rfl rfl rfl rfl rfl rfl rfl ⟨rfl, rfl, rfl, rfl, rfl⟩ rfl rfl rfl rfl rfl (by kernel_rfl) Tryd.func6 (by kernel_rfl)
    (of_decide_eq_true (by kernel_rfl)) (by unfold Func.isWrapper; rw [if_neg (of_decide_eq_false (by kernel_rfl))]; exact ⟨rfl, rfl⟩)
    (fun os started H enc _ F0 => by rw [OpenClaim.pre_eq_preRow]; exact lifted os started H enc F0)

/-- No parameter wants a stand-in; the program's own looks are off. -/
theorem plain (f : FuncId) (fn : Func) (hf : Tryd.pinned.checked.prog.funcNamed "pentaglot/pentaglotlaw15.NumeralReadsBack" = some f) (hfn : Tryd.pinned.checked.prog.funcs[f]? = some fn) :
    false = Tryd.pinned.checked.prog.looks [] ∧ ∀ (j : Nat) t, fn.params[j]? = some t → Tryd.pinned.checked.prog.wantsStandIn t = false := by
  obtain rfl : f = 6 := Option.some.inj ((show Tryd.prog.funcNamed "pentaglot/pentaglotlaw15.NumeralReadsBack" = some 6 by kernel_rfl).symm.trans hf) |>.symm
  obtain rfl : fn = Tryd.f6 := (Option.some.inj (Tryd.func6.symm.trans hfn)).symm
  refine ⟨by kernel_rfl, fun j t ht => ?_⟩
  rw [Tryd.params6] at ht
  have hm : t = 24 ∨ t = 43 := by simpa using Array.mem_of_getElem? ht
  rcases hm with rfl | rfl
  · exact (show Tryd.prog.wantsStandIn 24 = false by kernel_rfl)
  · exact (show Tryd.prog.wantsStandIn 43 = false by kernel_rfl)

theorem proved : Rows.NumeralReadsBackCardSaid :=
  Claim7.holds_tied_plain_at .later [] _ _ _ _ row (fun _ h => by cases h) (by kernel_rfl) (fun _ h => by cases h) numeralReadsBack_row_tie rfl ⟨rfl, rfl⟩ (by kernel_rfl) rfl plain (by kernel_rfl)
#print axioms proved
end Go.Proofs.YtdehghmpfkhljaaDoor.lawUDReads
