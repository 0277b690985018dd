/-
  Which systems are valid, and the results for the others: the law NumeralValid returns true. Conditions: none.
-/
import Derived.Test.YtdehghmpfkhljaaDoorNumFrame
import Derived.Test.YtdehghmpfkhljaaDoorNumLawB
import Derived.Test.YtdehghmpfkhljaaDoorNumRefV
import Derived.Test.YtdehghmpfkhljaaDoorNumBad
import Derived.Test.YtdehghmpfkhljaaDoorRegion
import Derived.Deep.DeepHandedRow
import Derived.Deep.DeepWitnessRowRef
import Derived.Deep.RegionHeld3
namespace Go.Proofs.YtdehghmpfkhljaaDoor.lawUAValid
open Go.ChangeShapes Go.WideShapes Go.ChangeAt Go.RowKit
open Go.ChangeMaps (open_string shut_string)
open NumPlain

set_option maxRecDepth 100000 in
set_option maxHeartbeats 3200000 in
theorem walk (x : Nm) (limit : Int) (w : World) (hT : Tabs w) (hw : Nw w x) (hz : Sz x) (hzb : (Lit.int .i64 x.base).wf = true) (_ : (Lit.int .i64 x.sub).wf = true) (hl : (Lit.int .i64 limit).wf = true) :
    Calls Tryd.prog 3 #[nV x, .int .i64 limit] w (BoolPost w true) := by
  have AL : Aft w (w.alloc (.cells (nC x) 24)) := (Aft.refl w).alloc _
  have HBX := Lib.hid (Bx.new w x 24)
  have HT := Lib.hid (tabs_aft hT AL)
  have HW := Lib.hid (hw.aft AL)
  have HZ := Lib.hid hz
  have HA := Lib.hid AL
  clear hT hw hz AL
  by_cases hsm : x.dn ≤ 40 ∧ x.pn ≤ 10
  · have HSM := Lib.hid (small_yes hsm)
    clear hsm
    cases hv : validB x
    · have HV := Lib.hid hv
      clear hv
      go_enter Tryd.func3, Tryd.ntmps3
      obtain ⟨c0, c1, c2, c3, c4, c5, c6, c7⟩ := HBX.out
      go_wp2_with fail
      have h1 := small_any x (w.alloc (.cells (nC x) 24))
      rw [HSM.out] at h1
      refine h1.mono ?_
      rintro e v1 ⟨rfl, N1⟩
      clear h1
      have D1 := N1
      clear c0 c1 c2 c3 c4 c5 c6 c7
      obtain ⟨c0, c1, c2, c3, c4, c5, c6, c7⟩ := HBX.out.aft D1
      go_wp2_with fail
      have h1 := refValid_any x v1 (tabs_aft HT.out D1) (HW.out.aft D1) HZ.out hzb
      rw [HV.out] at h1
      refine h1.mono ?_
      rintro e v2 ⟨rfl, N2⟩
      clear h1
      have D2 := D1.trans N2
      clear c0 c1 c2 c3 c4 c5 c6 c7
      obtain ⟨c0, c1, c2, c3, c4, c5, c6, c7⟩ := HBX.out.aft D2
      go_wp2_with fail
      have h1 := valid_any x v2 (tabs_aft HT.out D2) (HW.out.aft D2) HZ.out
      rw [HV.out] at h1
      refine h1.mono ?_
      rintro e v3 ⟨rfl, N3⟩
      clear h1
      have D3 := D2.trans N3
      clear c0 c1 c2 c3 c4 c5 c6 c7
      obtain ⟨c0, c1, c2, c3, c4, c5, c6, c7⟩ := HBX.out.aft D3
      go_wp2_with fail
      have HWV := Lib.hid (words_bad HV.out limit)
      have h1 := words_any x limit v3 (tabs_aft HT.out D3) (HW.out.aft D3) HZ.out
      rw [HWV.out] at h1
      refine h1.mono ?_
      rintro e v4 ⟨⟨X1, n1, q1, rfl, r1⟩, N4⟩
      clear h1
      have D4 := D3.trans N4
      obtain rfl : n1 = 0 := r1.len.symm
      clear r1
      clear c0 c1 c2 c3 c4 c5 c6 c7
      obtain ⟨c0, c1, c2, c3, c4, c5, c6, c7⟩ := HBX.out.aft D4
      go_wp2_with fail
      have h1 := clash_bad x HV.out limit v4 (tabs_aft HT.out D4) (HW.out.aft D4) HZ.out
      refine h1.mono ?_
      rintro e v5 ⟨rfl, N5⟩
      clear h1
      have D5 := D4.trans N5
      clear c0 c1 c2 c3 c4 c5 c6 c7
      obtain ⟨c0, c1, c2, c3, c4, c5, c6, c7⟩ := HBX.out.aft D5
      go_wp2_with fail
      have HLV := Lib.hid (long_bad HV.out limit)
      have h1 := longest_any x limit v5 hl (tabs_aft HT.out D5) (HW.out.aft D5) HZ.out
      rw [HLV.out] at h1
      refine h1.mono ?_
      rintro e v6 ⟨rfl, N6⟩
      clear h1
      have D6 := D5.trans N6
      clear c0 c1 c2 c3 c4 c5 c6 c7
      have DD := Lib.hid D6
      go_wp2
      have HGR := Lib.hid (show ∀ w', Aft (w.alloc (.cells (nC x) 24)) w' → Calls Tryd.prog 17 #[nV x] w' (fun e w'' => e = .returned (.int .i64 (-1)) ∧ Aft w' w'') from fun w' a => by have h := greatest_any x w' (tabs_aft HT.out a) (HW.out.aft a) HZ.out; rw [HV.out] at h; exact h)
      have HPA := Lib.hid (show ∀ w' (X : Option Addr), Rw sV w' X 1 1 [x.jo] → Aft (w.alloc (.cells (nC x) 24)) w' → Calls Tryd.prog 21 #[nV x, .slice X 1 1] w' (InPost w' []) from fun w' X hr a => by have h := parse_any x X 1 1 [x.jo] w' (tabs_aft HT.out a) (HW.out.aft a) HZ.out hr; rw [show parseV x [x.jo] = [] by unfold parseV; rw [HV.out]; rfl] at h; exact h)
      have HVO := Lib.hid (fun w' (a : Aft (w.alloc (.cells (nC x) 24)) w') => voc_bad x HV.out w' (tabs_aft HT.out a) (HW.out.aft a) HZ.out)
      have HSX := Lib.hid (show ∀ w', Aft (w.alloc (.cells (nC x) 24)) w' → (fun w' => Aft (w.alloc (.cells (nC x) 24)) w' ∧ w'.cell? ⟨w.heap.size, 0, none⟩ = some (.int .i64 x.base) ∧ w'.cell? ⟨w.heap.size, 1, none⟩ = some (.slice x.da x.dn x.dc) ∧ w'.cell? ⟨w.heap.size, 2, none⟩ = some (.slice x.pa x.pn x.pc) ∧ w'.cell? ⟨w.heap.size, 3, none⟩ = some (.bool x.sf) ∧ w'.cell? ⟨w.heap.size, 4, none⟩ = some (.string x.jo) ∧ w'.cell? ⟨w.heap.size, 5, none⟩ = some (.int .i64 x.sub) ∧ w'.cell? ⟨w.heap.size, 6, none⟩ = some (.string x.le) ∧ w'.cell? ⟨w.heap.size, 7, none⟩ = some (.bool x.om)) w' from fun w' a => ⟨a, (HBX.out.aft a).c0, (HBX.out.aft a).c1, (HBX.out.aft a).c2, (HBX.out.aft a).c3, (HBX.out.aft a).c4, (HBX.out.aft a).c5, (HBX.out.aft a).c6, (HBX.out.aft a).c7⟩)
      refine wp_region_held_drew (S := fun w' => Aft (w.alloc (.cells (nC x) 24)) w' ∧ w'.cell? ⟨w.heap.size, 0, none⟩ = some (.int .i64 x.base) ∧ w'.cell? ⟨w.heap.size, 1, none⟩ = some (.slice x.da x.dn x.dc) ∧ w'.cell? ⟨w.heap.size, 2, none⟩ = some (.slice x.pa x.pn x.pc) ∧ w'.cell? ⟨w.heap.size, 3, none⟩ = some (.bool x.sf) ∧ w'.cell? ⟨w.heap.size, 4, none⟩ = some (.string x.jo) ∧ w'.cell? ⟨w.heap.size, 5, none⟩ = some (.int .i64 x.sub) ∧ w'.cell? ⟨w.heap.size, 6, none⟩ = some (.string x.le) ∧ w'.cell? ⟨w.heap.size, 7, none⟩ = some (.bool x.om)) (by kernel_rfl) (HSX.out _ (Aft.drewN DD.out _)) (fun hHeld => ?_)
      refine one_ready (i := 0) rfl (by kernel_rfl) (by rfl) (fun K hK => ?_)
      have hA9002 := Lib.hid hHeld.1
      go_simp
      go_at_call 14
      refine (awake_any _ (tabs_aft HT.out (by first | exact hA9002.out | exact Below.drew hA9002.out))).mono ?_
      rintro e' w9002 ⟨rfl, M9002⟩
      have C9002 := Lib.hid (show Aft (w.alloc (.cells (nC x) 24)) w9002 from Aft.trans (by first | exact hA9002.out | exact Below.drew hA9002.out) M9002)
      try go_simp
      refine hK.out _ _ (HSX.out _ C9002.out) (fun hHeld => ?_)
      clear hK K
      try simp only [Act.put, List.setIfInBounds_toArray, List.set_cons_zero, List.set_cons_succ]
      refine take_on (i := 1) (v := ?v9003) rfl (by kernel_rfl) (by kernel_rfl) (by kernel_rfl) (fun _ _ _ h => h) (by rfl) (by assumption) ?y9003 ?_
      case y9003 => (intro w hSw; (try dsimp only at hSw); go_simp; (try with_reducible rfl))
      try simp only [Act.put, List.setIfInBounds_toArray, List.set_cons_zero, List.set_cons_succ]
      refine take_on (i := 2) (v := ?v9004) rfl (by kernel_rfl) (by kernel_rfl) (by kernel_rfl) (fun _ _ _ h => h) (by rfl) (by assumption) ?y9004 ?_
      case y9004 => (intro w hSw; (try dsimp only at hSw); go_simp; (try with_reducible rfl))
      try simp only [Act.put, List.setIfInBounds_toArray, List.set_cons_zero, List.set_cons_succ]
      refine one_ready (i := 3) rfl (by kernel_rfl) (by rfl) (fun K hK => ?_)
      have hA9006 := Lib.hid hHeld.1
      go_simp
      go_at_call 17
      refine (HGR.out _ (by first | exact hA9006.out | exact Below.drew hA9006.out)).mono ?_
      rintro e' w9006 ⟨rfl, M9006⟩
      have C9006 := Lib.hid (show Aft (w.alloc (.cells (nC x) 24)) w9006 from Aft.trans (by first | exact hA9006.out | exact Below.drew hA9006.out) M9006)
      try go_simp
      refine hK.out _ _ (HSX.out _ C9006.out) (fun hHeld => ?_)
      clear hK K
      try simp only [Act.put, List.setIfInBounds_toArray, List.set_cons_zero, List.set_cons_succ]
      refine take_on (i := 4) (v := ?v9007) rfl (by kernel_rfl) (by kernel_rfl) (by kernel_rfl) (fun _ _ _ h => h) (by rfl) (by assumption) ?y9007 ?_
      case y9007 => (intro w hSw; (try dsimp only at hSw); go_simp; (try with_reducible rfl))
      try simp only [Act.put, List.setIfInBounds_toArray, List.set_cons_zero, List.set_cons_succ]
      refine take_on (i := 5) (v := ?v9008) rfl (by kernel_rfl) (by kernel_rfl) (by kernel_rfl) (fun _ _ _ h => h) (by rfl) (by assumption) ?y9008 ?_
      case y9008 => (intro w hSw; (try dsimp only at hSw); go_simp; (try with_reducible rfl))
      try simp only [Act.put, List.setIfInBounds_toArray, List.set_cons_zero, List.set_cons_succ]
      refine take_on (i := 6) (v := ?v9009) rfl (by kernel_rfl) (by kernel_rfl) (by kernel_rfl) (fun _ _ _ h => h) (by rfl) (by assumption) ?y9009 ?_
      case y9009 => (intro w hSw; (try dsimp only at hSw); go_simp; (try with_reducible rfl))
      try simp only [Act.put, List.setIfInBounds_toArray, List.set_cons_zero, List.set_cons_succ]
      refine take_on (i := 7) (v := ?v9010) rfl (by kernel_rfl) (by kernel_rfl) (by kernel_rfl) (fun _ _ _ h => h) (by rfl) (by assumption) ?y9010 ?_
      case y9010 => (intro w hSw; (try dsimp only at hSw); go_simp; (try with_reducible rfl))
      try simp only [Act.put, List.setIfInBounds_toArray, List.set_cons_zero, List.set_cons_succ]
      refine take_on (i := 8) (v := ?v9011) rfl (by kernel_rfl) (by kernel_rfl) (by kernel_rfl) (fun _ _ _ h => h) (by rfl) (by assumption) ?y9011 ?_
      case y9011 => (intro w hSw; (try dsimp only at hSw); go_simp; (try with_reducible rfl))
      try simp only [Act.put, List.setIfInBounds_toArray, List.set_cons_zero, List.set_cons_succ]
      refine take_on (i := 9) (v := ?v9012) rfl (by kernel_rfl) (by kernel_rfl) (by kernel_rfl) (fun _ _ _ h => h) (by rfl) (by assumption) ?y9012 ?_
      case y9012 => (intro w hSw; (try dsimp only at hSw); go_simp; (try with_reducible rfl))
      try simp only [Act.put, List.setIfInBounds_toArray, List.set_cons_zero, List.set_cons_succ]
      refine take_on (i := 10) (v := ?v9013) rfl (by kernel_rfl) (by kernel_rfl) (by kernel_rfl) (fun _ _ _ h => h) (by rfl) (by assumption) ?y9013 ?_
      case y9013 => (intro w hSw; (try dsimp only at hSw); go_simp; (try with_reducible rfl))
      try simp only [Act.put, List.setIfInBounds_toArray, List.set_cons_zero, List.set_cons_succ]
      refine take_on (i := 11) (v := ?v9014) rfl (by kernel_rfl) (by kernel_rfl) (by kernel_rfl) (fun _ _ _ h => h) (by rfl) (by assumption) ?y9014 ?_
      case y9014 => (intro w hSw; (try dsimp only at hSw); go_simp; (try with_reducible rfl))
      try simp only [Act.put, List.setIfInBounds_toArray, List.set_cons_zero, List.set_cons_succ]
      refine take_on (i := 12) (v := ?v9015) rfl (by kernel_rfl) (by kernel_rfl) (by kernel_rfl) (fun _ _ _ h => h) (by rfl) (by assumption) ?y9015 ?_
      case y9015 => (intro w hSw; (try dsimp only at hSw); go_simp; (try with_reducible rfl))
      try simp only [Act.put, List.setIfInBounds_toArray, List.set_cons_zero, List.set_cons_succ]
      refine take_on (i := 13) (v := ?v9016) rfl (by kernel_rfl) (by kernel_rfl) (by kernel_rfl) (fun _ _ _ h => h) (by rfl) (by assumption) ?y9016 ?_
      case y9016 => (intro w hSw; (try dsimp only at hSw); go_simp; (try with_reducible rfl))
      try simp only [Act.put, List.setIfInBounds_toArray, List.set_cons_zero, List.set_cons_succ]
      refine take_on (i := 14) (v := ?v9017) rfl (by kernel_rfl) (by kernel_rfl) (by kernel_rfl) (fun _ _ _ h => h) (by rfl) (by assumption) ?y9017 ?_
      case y9017 => (intro w hSw; (try dsimp only at hSw); go_simp; (try with_reducible rfl))
      try simp only [Act.put, List.setIfInBounds_toArray, List.set_cons_zero, List.set_cons_succ]
      refine take_on (i := 15) (v := ?v9018) rfl (by kernel_rfl) (by kernel_rfl) (by kernel_rfl) (fun _ _ _ h => h) (by rfl) (by assumption) ?y9018 ?_
      case y9018 => (intro w hSw; (try dsimp only at hSw); go_simp; (try with_reducible rfl))
      try simp only [Act.put, List.setIfInBounds_toArray, List.set_cons_zero, List.set_cons_succ]
      refine take_on (i := 20) (v := ?v9019) rfl (by kernel_rfl) (by kernel_rfl) (by kernel_rfl) (fun _ _ _ h => h) (by rfl) (by assumption) ?y9019 ?_
      case y9019 => (intro w hSw; (try dsimp only at hSw); go_simp; (try with_reducible rfl))
      try simp only [Act.put, List.setIfInBounds_toArray, List.set_cons_zero, List.set_cons_succ]
      refine one_ready (i := 16) rfl (by kernel_rfl) (by rfl) (fun K hK => ?_)
      have hA9021 := Lib.hid hHeld.1
      go_simp
      refine hK.out _ _ (HSX.out _ (by first | exact Aft.alloc hA9021.out _ | exact Aft.alloc (Below.drew hA9021.out) _)) (fun hHeld => ?_)
      clear hK K
      try simp only [Act.put, List.setIfInBounds_toArray, List.set_cons_zero, List.set_cons_succ]
      refine one_ready (i := 17) rfl (by kernel_rfl) (by rfl) (fun K hK => ?_)
      have hA9023 := Lib.hid hHeld.1
      go_simp
      go_at_call 21
      refine (HPA.out _ _ (by first | exact row1 (cell1 _ _ _)) (by first | exact hA9023.out | exact Below.drew hA9023.out)).mono ?_
      rintro e' w9023 ⟨⟨X3, n3, q3, rfl, r3⟩, M9023⟩
      have C9023 := Lib.hid (show Aft (w.alloc (.cells (nC x) 24)) w9023 from Aft.trans (by first | exact hA9023.out | exact Below.drew hA9023.out) M9023)
      obtain rfl : n3 = 0 := r3.len.symm
      clear r3
      try go_simp
      refine hK.out _ _ (HSX.out _ C9023.out) (fun hHeld => ?_)
      clear hK K
      try simp only [Act.put, List.setIfInBounds_toArray, List.set_cons_zero, List.set_cons_succ]
      refine take_on (i := 18) (v := ?v9024) rfl (by kernel_rfl) (by kernel_rfl) (by kernel_rfl) (fun _ _ _ h => h) (by rfl) (by assumption) ?y9024 ?_
      case y9024 => (intro w hSw; (try dsimp only at hSw); go_simp; (try with_reducible rfl))
      try simp only [Act.put, List.setIfInBounds_toArray, List.set_cons_zero, List.set_cons_succ]
      refine take_on (i := 19) (v := ?v9025) rfl (by kernel_rfl) (by kernel_rfl) (by kernel_rfl) (fun _ _ _ h => h) (by rfl) (by assumption) ?y9025 ?_
      case y9025 => (intro w hSw; (try dsimp only at hSw); go_simp; (try with_reducible rfl))
      try simp only [Act.put, List.setIfInBounds_toArray, List.set_cons_zero, List.set_cons_succ]
      refine one_ready (i := 21) rfl (by kernel_rfl) (by rfl) (fun K hK => ?_)
      have hA9027 := Lib.hid hHeld.1
      go_simp
      go_at_call 22
      refine (HVO.out _ (by first | exact hA9027.out | exact Below.drew hA9027.out)).mono ?_
      rintro e' w9027 ⟨rfl, M9027⟩
      have C9027 := Lib.hid (show Aft (w.alloc (.cells (nC x) 24)) w9027 from Aft.trans (by first | exact hA9027.out | exact Below.drew hA9027.out) M9027)
      try go_simp
      refine hK.out _ _ (HSX.out _ C9027.out) (fun hHeld => ?_)
      clear hK K
      try simp only [Act.put, List.setIfInBounds_toArray, List.set_cons_zero, List.set_cons_succ]
      refine take_on (i := 22) (v := ?v9028) rfl (by kernel_rfl) (by kernel_rfl) (by kernel_rfl) (fun _ _ _ h => h) (by rfl) (by assumption) ?y9028 ?_
      case y9028 => (intro w hSw; (try dsimp only at hSw); go_simp; (try with_reducible rfl))
      try simp only [Act.put, List.setIfInBounds_toArray, List.set_cons_zero, List.set_cons_succ]
      refine take_on (i := 23) (v := ?v9029) rfl (by kernel_rfl) (by kernel_rfl) (by kernel_rfl) (fun _ _ _ h => h) (by rfl) (by assumption) ?y9029 ?_
      case y9029 => (intro w hSw; (try dsimp only at hSw); go_simp; (try with_reducible rfl))
      try simp only [Act.put, List.setIfInBounds_toArray, List.set_cons_zero, List.set_cons_succ]
      refine take_on (i := 24) (v := ?v9030) rfl (by kernel_rfl) (by kernel_rfl) (by kernel_rfl) (fun _ _ _ h => h) (by rfl) (by assumption) ?y9030 ?_
      case y9030 => (intro w hSw; (try dsimp only at hSw); go_simp; (try with_reducible rfl))
      try simp only [Act.put, List.setIfInBounds_toArray, List.set_cons_zero, List.set_cons_succ]
      refine take_on (i := 25) (v := ?v9031) rfl (by kernel_rfl) (by kernel_rfl) (by kernel_rfl) (fun _ _ _ h => h) (by rfl) (by assumption) ?y9031 ?_
      case y9031 => (intro w hSw; (try dsimp only at hSw); go_simp; (try with_reducible rfl))
      try simp only [Act.put, List.setIfInBounds_toArray, List.set_cons_zero, List.set_cons_succ]
      refine take_on (i := 26) (v := ?v9032) rfl (by kernel_rfl) (by kernel_rfl) (by kernel_rfl) (fun _ _ _ h => h) (by rfl) (by assumption) ?y9032 ?_
      case y9032 => (intro w hSw; (try dsimp only at hSw); go_simp; (try with_reducible rfl))
      try simp only [Act.put, List.setIfInBounds_toArray, List.set_cons_zero, List.set_cons_succ]
      refine take_on (i := 27) (v := ?v9033) rfl (by kernel_rfl) (by kernel_rfl) (by kernel_rfl) (fun _ _ _ h => h) (by rfl) (by assumption) ?y9033 ?_
      case y9033 => (intro w hSw; (try dsimp only at hSw); go_simp; (try with_reducible rfl))
      try simp only [Act.put, List.setIfInBounds_toArray, List.set_cons_zero, List.set_cons_succ]
      refine take_on (i := 28) (v := ?v9034) rfl (by kernel_rfl) (by kernel_rfl) (by kernel_rfl) (fun _ _ _ h => h) (by rfl) (by assumption) ?y9034 ?_
      case y9034 => (intro w hSw; (try dsimp only at hSw); go_simp; (try with_reducible rfl))
      try simp only [Act.put, List.setIfInBounds_toArray, List.set_cons_zero, List.set_cons_succ]
      refine take_on (i := 29) (v := ?v9035) rfl (by kernel_rfl) (by kernel_rfl) (by kernel_rfl) (fun _ _ _ h => h) (by rfl) (by assumption) ?y9035 ?_
      case y9035 => (intro w hSw; (try dsimp only at hSw); go_simp; (try with_reducible rfl))
      try simp only [Act.put, List.setIfInBounds_toArray, List.set_cons_zero, List.set_cons_succ]
      refine take_on (i := 30) (v := ?v9036) rfl (by kernel_rfl) (by kernel_rfl) (by kernel_rfl) (fun _ _ _ h => h) (by rfl) (by assumption) ?y9036 ?_
      case y9036 => (intro w hSw; (try dsimp only at hSw); go_simp; (try with_reducible rfl))
      try simp only [Act.put, List.setIfInBounds_toArray, List.set_cons_zero, List.set_cons_succ]
      refine take_on (i := 31) (v := ?v9037) rfl (by kernel_rfl) (by kernel_rfl) (by kernel_rfl) (fun _ _ _ h => h) (by rfl) (by assumption) ?y9037 ?_
      case y9037 => (intro w hSw; (try dsimp only at hSw); go_simp; (try with_reducible rfl))
      try simp only [Act.put, List.setIfInBounds_toArray, List.set_cons_zero, List.set_cons_succ]
      refine take_on (i := 32) (v := ?v9038) rfl (by kernel_rfl) (by kernel_rfl) (by kernel_rfl) (fun _ _ _ h => h) (by rfl) (by assumption) ?y9038 ?_
      case y9038 => (intro w hSw; (try dsimp only at hSw); go_simp; (try with_reducible rfl))
      try simp only [Act.put, List.setIfInBounds_toArray, List.set_cons_zero, List.set_cons_succ]
      refine take_on (i := 33) (v := ?v9039) rfl (by kernel_rfl) (by kernel_rfl) (by kernel_rfl) (fun _ _ _ h => h) (by rfl) (by assumption) ?y9039 ?_
      case y9039 => (intro w hSw; (try dsimp only at hSw); go_simp; (try with_reducible rfl))
      try simp only [Act.put, List.setIfInBounds_toArray, List.set_cons_zero, List.set_cons_succ]
      refine take_on (i := 34) (v := ?v9040) rfl (by kernel_rfl) (by kernel_rfl) (by kernel_rfl) (fun _ _ _ h => h) (by rfl) (by assumption) ?y9040 ?_
      case y9040 => (intro w hSw; (try dsimp only at hSw); go_simp; (try with_reducible rfl))
      try simp only [Act.put, List.setIfInBounds_toArray, List.set_cons_zero, List.set_cons_succ]
      refine take_on (i := 35) (v := ?v9041) rfl (by kernel_rfl) (by kernel_rfl) (by kernel_rfl) (fun _ _ _ h => h) (by rfl) (by assumption) ?y9041 ?_
      case y9041 => (intro w hSw; (try dsimp only at hSw); go_simp; (try with_reducible rfl))
      try simp only [Act.put, List.setIfInBounds_toArray, List.set_cons_zero, List.set_cons_succ]
      refine take_on (i := 36) (v := ?v9042) rfl (by kernel_rfl) (by kernel_rfl) (by kernel_rfl) (fun _ _ _ h => h) (by rfl) (by assumption) ?y9042 ?_
      case y9042 => (intro w hSw; (try dsimp only at hSw); go_simp; (try with_reducible rfl))
      try simp only [Act.put, List.setIfInBounds_toArray, List.set_cons_zero, List.set_cons_succ]
      refine take_on (i := 37) (v := ?v9043) rfl (by kernel_rfl) (by kernel_rfl) (by kernel_rfl) (fun _ _ _ h => h) (by rfl) (by assumption) ?y9043 ?_
      case y9043 => (intro w hSw; (try dsimp only at hSw); go_simp; (try with_reducible rfl))
      try simp only [Act.put, List.setIfInBounds_toArray, List.set_cons_zero, List.set_cons_succ]
      refine take_on (i := 38) (v := ?v9044) rfl (by kernel_rfl) (by kernel_rfl) (by kernel_rfl) (fun _ _ _ h => h) (by rfl) (by assumption) ?y9044 ?_
      case y9044 => (intro w hSw; (try dsimp only at hSw); go_simp; (try with_reducible rfl))
      try simp only [Act.put, List.setIfInBounds_toArray, List.set_cons_zero, List.set_cons_succ]
      refine take_on (i := 39) (v := ?v9045) rfl (by kernel_rfl) (by kernel_rfl) (by kernel_rfl) (fun _ _ _ h => h) (by rfl) (by assumption) ?y9045 ?_
      case y9045 => (intro w hSw; (try dsimp only at hSw); go_simp; (try with_reducible rfl))
      try simp only [Act.put, List.setIfInBounds_toArray, List.set_cons_zero, List.set_cons_succ]
      refine take_on (i := 40) (v := ?v9046) rfl (by kernel_rfl) (by kernel_rfl) (by kernel_rfl) (fun _ _ _ h => h) (by rfl) (by assumption) ?y9046 ?_
      case y9046 => (intro w hSw; (try dsimp only at hSw); go_simp; (try with_reducible rfl))
      try simp only [Act.put, List.setIfInBounds_toArray, List.set_cons_zero, List.set_cons_succ]
      refine take_on (i := 41) (v := ?v9047) rfl (by kernel_rfl) (by kernel_rfl) (by kernel_rfl) (fun _ _ _ h => h) (by rfl) (by assumption) ?y9047 ?_
      case y9047 => (intro w hSw; (try dsimp only at hSw); go_simp; (try with_reducible rfl))
      try simp only [Act.put, List.setIfInBounds_toArray, List.set_cons_zero, List.set_cons_succ]
      refine take_on (i := 42) (v := ?v9048) rfl (by kernel_rfl) (by kernel_rfl) (by kernel_rfl) (fun _ _ _ h => h) (by rfl) (by assumption) ?y9048 ?_
      case y9048 => (intro w hSw; (try dsimp only at hSw); go_simp; (try with_reducible rfl))
      try simp only [Act.put, List.setIfInBounds_toArray, List.set_cons_zero, List.set_cons_succ]
      refine take_on (i := 43) (v := ?v9049) rfl (by kernel_rfl) (by kernel_rfl) (by kernel_rfl) (fun _ _ _ h => h) (by rfl) (by assumption) ?y9049 ?_
      case y9049 => (intro w hSw; (try dsimp only at hSw); go_simp; (try with_reducible rfl))
      try simp only [Act.put, List.setIfInBounds_toArray, List.set_cons_zero, List.set_cons_succ]
      refine take_on (i := 44) (v := ?v9050) rfl (by kernel_rfl) (by kernel_rfl) (by kernel_rfl) (fun _ _ _ h => h) (by rfl) (by assumption) ?y9050 ?_
      case y9050 => (intro w hSw; (try dsimp only at hSw); go_simp; (try with_reducible rfl))
      try simp only [Act.put, List.setIfInBounds_toArray, List.set_cons_zero, List.set_cons_succ]
      refine take_on (i := 45) (v := ?v9051) rfl (by kernel_rfl) (by kernel_rfl) (by kernel_rfl) (fun _ _ _ h => h) (by rfl) (by assumption) ?y9051 ?_
      case y9051 => (intro w hSw; (try dsimp only at hSw); go_simp; (try with_reducible rfl))
      try simp only [Act.put, List.setIfInBounds_toArray, List.set_cons_zero, List.set_cons_succ]
      refine take_on (i := 46) (v := ?v9052) rfl (by kernel_rfl) (by kernel_rfl) (by kernel_rfl) (fun _ _ _ h => h) (by rfl) (by assumption) ?y9052 ?_
      case y9052 => (intro w hSw; (try dsimp only at hSw); go_simp; (try with_reducible rfl))
      try simp only [Act.put, List.setIfInBounds_toArray, List.set_cons_zero, List.set_cons_succ]
      refine wpAnyH_done (by kernel_rfl) ?_ _
      go_wp2
      go_ret
      exact ⟨rfl, HA.out.trans hHeld.1⟩
    · have HV := Lib.hid hv
      clear hv
      go_enter Tryd.func3, Tryd.ntmps3
      obtain ⟨c0, c1, c2, c3, c4, c5, c6, c7⟩ := HBX.out
      go_wp2_with fail
      have h1 := small_any x (w.alloc (.cells (nC x) 24))
      rw [HSM.out] at h1
      refine h1.mono ?_
      rintro e v1 ⟨rfl, N1⟩
      clear h1
      have D1 := N1
      clear c0 c1 c2 c3 c4 c5 c6 c7
      obtain ⟨c0, c1, c2, c3, c4, c5, c6, c7⟩ := HBX.out.aft D1
      go_wp2_with fail
      have h1 := refValid_any x v1 (tabs_aft HT.out D1) (HW.out.aft D1) HZ.out hzb
      rw [HV.out] at h1
      refine h1.mono ?_
      rintro e v2 ⟨rfl, N2⟩
      clear h1
      have D2 := D1.trans N2
      clear c0 c1 c2 c3 c4 c5 c6 c7
      obtain ⟨c0, c1, c2, c3, c4, c5, c6, c7⟩ := HBX.out.aft D2
      go_wp2_with fail
      have h1 := valid_any x v2 (tabs_aft HT.out D2) (HW.out.aft D2) HZ.out
      rw [HV.out] at h1
      refine h1.mono ?_
      rintro e v3 ⟨rfl, N3⟩
      clear h1
      have D3 := D2.trans N3
      clear c0 c1 c2 c3 c4 c5 c6 c7
      go_wp2_with fail
      have h1 := awake_any v3 (tabs_aft HT.out D3)
      refine h1.mono ?_
      rintro e v4 ⟨rfl, N4⟩
      clear h1
      have D4 := D3.trans N4
      obtain ⟨c0, c1, c2, c3, c4, c5, c6, c7⟩ := HBX.out.aft D4
      go_wp2_with fail
      have h1 := greatest_any x v4 (tabs_aft HT.out D4) (HW.out.aft D4) HZ.out
      rw [HV.out] at h1
      refine h1.mono ?_
      rintro e v5 ⟨rfl, N5⟩
      clear h1
      have D5 := D4.trans N5
      clear c0 c1 c2 c3 c4 c5 c6 c7
      go_wp2
      go_ret
      exact ⟨by first | rfl | simp, HA.out.trans D5⟩
  · have HSM := Lib.hid (small_no hsm)
    clear hsm
    go_enter Tryd.func3, Tryd.ntmps3
    obtain ⟨c0, c1, c2, c3, c4, c5, c6, c7⟩ := HBX.out
    go_wp2_with fail
    have h1 := small_any x (w.alloc (.cells (nC x) 24))
    rw [HSM.out] at h1
    refine h1.mono ?_
    rintro e v1 ⟨rfl, N1⟩
    clear h1
    have D1 := N1
    clear c0 c1 c2 c3 c4 c5 c6 c7
    go_wp2_with fail
    have h1 := awake_any v1 (tabs_aft HT.out D1)
    refine h1.mono ?_
    rintro e v2 ⟨rfl, N2⟩
    clear h1
    have D2 := D1.trans N2
    go_wp2
    go_ret
    exact ⟨by first | rfl | simp, HA.out.trans D2⟩

theorem own : ownKnob Tryd.prog.godebug = none := by kernel_rfl
theorem laidOut : laidOutB Tryd.prog = true := by kernel_rfl

set_option maxRecDepth 100000 in
theorem contract (H : Type) (enc : TypeId × Value → H) (W : World) (base : Nat) (args : Array Value) (ds gs : List (DataW H)) (before : List MemPlace)
    (hval : ∀ (j : Nat) t v, Tryd.f3.params[j]? = some t → args[j]? = some v → Value.okWide Tryd.prog W .any base t v)
    (hW : DataW.Whole enc Tryd.prog Tryd.f3.params.toList Rows.numeralValidSpec.vars false W args.toList ds gs before) (hsz0 : (DataW.weightsEach Tryd.prog (Tryd.f3.params.toList ++ Rows.numeralValidSpec.plain.varTypes Tryd.prog) (ds ++ gs)).all (· ≤ reachBytes) = true) (hL : laidMetH Tryd.prog listed W) :
    Calls Tryd.prog 3 args W fun e W' => ∃ v, e = .returned v ∧ Rows.numeralValidSpec.post enc Tryd.prog Tryd.f3 false true false false W args v W' := by
  have hW' := hW
  obtain ⟨p, q, hA0, hV, rfl, hfz, hnd⟩ := hW
  have hA : DataW.TrodAll enc Tryd.prog W 0 (fun _ => true) true Tryd.f3.params.toList args.toList ds p := hA0
  have hsz := hsz0
  rw [Tryd.params3] at hA hval hsz
  obtain ⟨v0, vs0, d0, ds0, p0, q0, hargs, rfl, rfl, h0, r0⟩ := trodAll_cons hA
  obtain ⟨v1, vs1, d1, ds1, p1, q1, rfl, rfl, rfl, h1, r1⟩ := trodAll_cons r0
  obtain ⟨rfl, rfl, rfl⟩ := trodAll_nil r1
  obtain rfl : args = #[v0, v1] := by cases args; simp_all
  obtain ⟨rfl, rfl⟩ := trodVars_none hV
  have lt0 : ∀ x ∈ p0, x.block < W.heap.size := by obtain ⟨m, hm⟩ := h0; exact DataW.trod_lt m _ _ _ hm
  obtain ⟨xs0, rfl, sn0, sz0, zb0, zs0⟩ := sys_of (okWide_struct Tryd.underlying24 (hval 0 24 v0 rfl rfl)) h0
  obtain ⟨xs1, rfl, rfl, rfl, z1⟩ := open_int Tryd.underlying3 (hval 1 3 v1 rfl rfl) h1
  clear hA0
  refine (walk xs0 xs1 W (tabs_of hL) sn0 sz0 zb0 zs0 z1).mono fun e W' ⟨he, bel⟩ => ?_
  subst he
  exact ⟨_, rfl, _, _, _, [], _, [], hW', trodAll_mk1 (shut_bool Tryd.underlying4 _), (trodAll_cons_mk (Below.trod laidOut (by kernel_rfl) (of_decide_eq_true (by kernel_rfl)) h0 bel lt0) (trodAll_cons_mk (shut_int Tryd.underlying3 z1) trodAll_mk0)), rfl, Below.frame bel _, fun h => by cases h⟩

theorem witness_row (os : Os) {H : Type} (enc : TypeId × Value → H) :
    (OpenSpec.ofChange Rows.numeralValidSpec).preRow enc Tryd.prog Tryd.f3 Rows.numeralValidRow.domain false Rows.numeralValidRow.laid ((laidWorld os).forCall (fun _ _ => 0) ⟨#[], #[.agg #[.int .i64 0, .slice none 0 0, .slice none 0 0, .bool false, .string ⟨#[]⟩, .int .i64 0, .string ⟨#[]⟩, .bool false], .int .i64 0], []⟩).memory #[.agg #[.int .i64 0, .slice none 0 0, .slice none 0 0, .bool false, .string ⟨#[]⟩, .int .i64 0, .string ⟨#[]⟩, .bool false], .int .i64 0] := by
  have hw : (DataW.whole enc Tryd.prog ((laidWorld os).forCall (fun _ _ => 0) ⟨#[], #[.agg #[.int .i64 0, .slice none 0 0, .slice none 0 0, .bool false, .string ⟨#[]⟩, .int .i64 0, .string ⟨#[]⟩, .bool false], .int .i64 0], []⟩).memory Tryd.f3.params.toList Rows.numeralValidSpec.vars false (#[.agg #[.int .i64 0, .slice none 0 0, .slice none 0 0, .bool false, .string ⟨#[]⟩, .int .i64 0, .string ⟨#[]⟩, .bool false], .int .i64 0] : Array Value).toList 8).map (fun x => (x.1, x.2.1)) =
      some ([.agg [.lit (.int .i64 0), .nil, .nil, .lit (.bool false), .lit (.string []), .lit (.int .i64 0), .lit (.string []), .lit (.bool false)], .lit (.int .i64 0)], []) := by kernel_rfl
  obtain ⟨⟨x1, x2, x3⟩, hx, hx1⟩ := Option.map_eq_some_iff.1 hw
  simp only [Prod.mk.injEq] at hx1
  obtain ⟨rfl, rfl⟩ := hx1
  exact OpenSpec.preRow_of_cond 8 hx (by kernel_rfl) (fun k hk => by cases hk) (by kernel_rfl) (laid_met os _)

set_option maxRecDepth 100000 in
theorem lifted (os : Os) (started : os.Started) (H : Type) (enc : TypeId × Value → H) (F : Stop.Interp) :
    ReturnsInHanded {} Tryd.checked os 3 .any ((OpenSpec.ofChange Rows.numeralValidSpec).preRow enc Tryd.prog Tryd.f3 Rows.numeralValidRow.domain false Rows.numeralValidRow.laid) (((OpenSpec.ofChange Rows.numeralValidSpec).at F).post enc Tryd.prog Tryd.f3 false true false false) := by
  refine returnsInHanded_of_row (C := Tryd.checked) (s := (OpenSpec.ofChange Rows.numeralValidSpec)) own started (by kernel_rfl) Tryd.func3
    (witness_row_atRef (enc := enc) (C := Tryd.checked) false (laidWorld os) #[.agg #[.int .i64 0, .slice none 0 0, .slice none 0 0, .bool false, .string ⟨#[]⟩, .int .i64 0, .string ⟨#[]⟩, .bool false], .int .i64 0] rfl (by kernel_rfl) (by kernel_rfl) (by kernel_rfl) (witness_row os enc)) ?_
  intro W base args ds gs before hval hW _ _ hsz hL _ _
  exact contract H enc W base args ds gs before hval hW hsz hL

theorem row : Rows.NumeralValidSaid :=
  OpenClaim.holds_of_cond 3 Tryd.f3 rfl rfl rfl rfl rfl rfl rfl ⟨rfl, rfl, rfl, rfl, rfl⟩ rfl rfl rfl rfl rfl (by kernel_rfl) Tryd.func3 (by kernel_rfl)
    (of_decide_eq_true (by kernel_rfl)) (by unfold Func.isWrapper; rw [if_neg (of_decide_eq_false (by kernel_rfl))]; exact ⟨rfl, rfl⟩)
    (fun os started H enc _ F0 => by rw [OpenClaim.pre_eq_preRow]; exact lifted os started H enc F0)

/-- No parameter wants a stand-in; the program's own looks are off. -/
theorem plain (f : FuncId) (fn : Func) (hf : Tryd.pinned.checked.prog.funcNamed "pentaglot/pentaglotlaw15.NumeralValid" = some f) (hfn : Tryd.pinned.checked.prog.funcs[f]? = some fn) :
    false = Tryd.pinned.checked.prog.looks [] ∧ ∀ (j : Nat) t, fn.params[j]? = some t → Tryd.pinned.checked.prog.wantsStandIn t = false := by
  obtain rfl : f = 3 := Option.some.inj ((show Tryd.prog.funcNamed "pentaglot/pentaglotlaw15.NumeralValid" = some 3 by kernel_rfl).symm.trans hf) |>.symm
  obtain rfl : fn = Tryd.f3 := (Option.some.inj (Tryd.func3.symm.trans hfn)).symm
  refine ⟨by kernel_rfl, fun j t ht => ?_⟩
  rw [Tryd.params3] at ht
  have hm : t = 24 ∨ t = 3 := by simpa using Array.mem_of_getElem? ht
  rcases hm with rfl | rfl
  · exact (show Tryd.prog.wantsStandIn 24 = false by kernel_rfl)
  · exact (show Tryd.prog.wantsStandIn 3 = false by kernel_rfl)

theorem proved : Rows.NumeralValidCardSaid :=
  Claim7.holds_tied_plain_at .later [] _ _ _ _ row (fun _ h => by cases h) (by kernel_rfl) (fun _ h => by cases h) numeralValid_row_tie rfl ⟨rfl, rfl⟩ (by kernel_rfl) rfl plain (by kernel_rfl)
#print axioms proved
end Go.Proofs.YtdehghmpfkhljaaDoor.lawUAValid
