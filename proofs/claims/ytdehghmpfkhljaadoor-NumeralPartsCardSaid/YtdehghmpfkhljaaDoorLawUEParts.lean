/-
  Without subtraction, a number is the multiple of its greatest power, the joiner and the remainder: the law NumeralParts returns true. Conditions: none.
-/
import Derived.Test.YtdehghmpfkhljaaDoorNumFrame
import Derived.Test.YtdehghmpfkhljaaDoorNumLawP
import Derived.Test.YtdehghmpfkhljaaDoorRegion
import Derived.Deep.DeepHandedRow
import Derived.Deep.DeepWitnessRowRef
import Derived.Deep.RegionHeld3
namespace Go.Proofs.YtdehghmpfkhljaaDoor.lawUEParts
open Go.ChangeShapes Go.WideShapes Go.ChangeAt Go.RowKit
open Go.ChangeMaps (open_string shut_string)
open NumPlain

set_option maxRecDepth 100000 in
set_option maxHeartbeats 3200000 in
theorem walk (x : Nm) (k1 : Int) (w : World) (hT : Tabs w) (hw : Nw w x) (hz : Sz x) (_ : (Lit.int .i64 x.base).wf = true) (_ : (Lit.int .i64 x.sub).wf = true) (hk1 : (Lit.int .u16 k1).wf = true) :
    Calls Tryd.prog 7 #[nV x, .int .u16 k1] w (BoolPost w true) := by
  have AL : Aft w (w.alloc (.cells #[.int .i64 x.base, .slice x.da x.dn x.dc, .slice x.pa x.pn x.pc, .bool x.sf, .string x.jo, .int .i64 0, .string ⟨#[]⟩, .bool x.om] 24)) := (Aft.refl w).alloc _
  have HBX := Lib.hid (show Bx (w.alloc (.cells #[.int .i64 x.base, .slice x.da x.dn x.dc, .slice x.pa x.pn x.pc, .bool x.sf, .string x.jo, .int .i64 0, .string ⟨#[]⟩, .bool x.om] 24)) w.heap.size { x with sub := 0, le := ⟨#[]⟩ } from Bx.new w { x with sub := 0, le := ⟨#[]⟩ } 24)
  have HT := Lib.hid (tabs_aft hT AL)
  have HW := Lib.hid (show Nw (w.alloc (.cells #[.int .i64 x.base, .slice x.da x.dn x.dc, .slice x.pa x.pn x.pc, .bool x.sf, .string x.jo, .int .i64 0, .string ⟨#[]⟩, .bool x.om] 24)) { x with sub := 0, le := ⟨#[]⟩ } from ⟨hw.rd.aft AL, hw.rp.aft AL⟩)
  have HZ := Lib.hid (show Sz { x with sub := 0, le := ⟨#[]⟩ } from ⟨hz.d, hz.p, hz.j, by show (0 : Nat) ≤ _; omega⟩)
  have HA := Lib.hid AL
  clear hT hw hz AL
  have hz1 := wf_range16 hk1
  obtain ⟨j, hj⟩ : ∃ j : Nat, k1.tmod 10000 = (j : Int) := ⟨(k1.tmod 10000).toNat, by rw [Int.toNat_of_nonneg]; exact Int.tmod_nonneg _ hz1.1⟩
  have hj9 : j ≤ 9999 := by have := Int.tmod_lt_of_pos k1 (show (0 : Int) < 10000 by omega); omega
  by_cases hsm : x.dn ≤ 40 ∧ x.pn ≤ 10
  · have HSM := Lib.hid (small_yes (x := { x with sub := 0, le := ⟨#[]⟩ }) hsm)
    clear hsm
    cases hv : validB { x with sub := 0, le := ⟨#[]⟩ }
    · have HV := Lib.hid hv
      clear hv
      go_enter Tryd.func7, Tryd.ntmps7
      obtain ⟨c0, c1, c2, c3, c4, c5, c6, c7⟩ := HBX.out
      dsimp only at c0 c1 c2 c3 c4 c5 c6 c7
      go_wp2_with fail
      have h1 := small_any { x with sub := 0, le := ⟨#[]⟩ } (w.alloc (.cells #[.int .i64 x.base, .slice x.da x.dn x.dc, .slice x.pa x.pn x.pc, .bool x.sf, .string x.jo, .int .i64 0, .string ⟨#[]⟩, .bool x.om] 24))
      rw [HSM.out] at h1
      refine h1.mono ?_
      rintro e v1 ⟨rfl, N1⟩
      clear h1
      have D1 := N1
      clear c0 c1 c2 c3 c4 c5 c6 c7
      obtain ⟨c0, c1, c2, c3, c4, c5, c6, c7⟩ := HBX.out.aft D1
      dsimp only at c0 c1 c2 c3 c4 c5 c6 c7
      go_wp2_with fail
      have h1 := valid_any { x with sub := 0, le := ⟨#[]⟩ } v1 (tabs_aft HT.out D1) (HW.out.aft D1) HZ.out
      rw [HV.out] at h1
      refine h1.mono ?_
      rintro e v2 ⟨rfl, N2⟩
      clear h1
      have D2 := D1.trans N2
      clear c0 c1 c2 c3 c4 c5 c6 c7
      go_wp2_with fail
      have h1 := awake_any v2 (tabs_aft HT.out D2)
      refine h1.mono ?_
      rintro e v3 ⟨rfl, N3⟩
      clear h1
      have D3 := D2.trans N3
      go_wp2
      go_ret
      exact ⟨by first | rfl | simp, HA.out.trans D3⟩
    · have HV := Lib.hid hv
      have hL := len_of HW.out hv
      have hbs := hL.b
      have hbase : x.base = ((bs { x with sub := 0, le := ⟨#[]⟩ } : Nat) : Int) := by have h := hL.ok.base; unfold bs; rcases h with h | h <;> (dsimp only at h ⊢; rw [h]; rfl)
      have HL := Lib.hid hL
      clear hv
      by_cases hjb : (j : Int) < x.base
      · clear hbase hbs hL
        go_enter Tryd.func7, Tryd.ntmps7
        obtain ⟨c0, c1, c2, c3, c4, c5, c6, c7⟩ := HBX.out
        dsimp only at c0 c1 c2 c3 c4 c5 c6 c7
        go_wp2_with fail
        have h1 := small_any { x with sub := 0, le := ⟨#[]⟩ } (w.alloc (.cells #[.int .i64 x.base, .slice x.da x.dn x.dc, .slice x.pa x.pn x.pc, .bool x.sf, .string x.jo, .int .i64 0, .string ⟨#[]⟩, .bool x.om] 24))
        rw [HSM.out] at h1
        refine h1.mono ?_
        rintro e v1 ⟨rfl, N1⟩
        clear h1
        have D1 := N1
        clear c0 c1 c2 c3 c4 c5 c6 c7
        obtain ⟨c0, c1, c2, c3, c4, c5, c6, c7⟩ := HBX.out.aft D1
        dsimp only at c0 c1 c2 c3 c4 c5 c6 c7
        go_wp2_with fail
        have h1 := valid_any { x with sub := 0, le := ⟨#[]⟩ } v1 (tabs_aft HT.out D1) (HW.out.aft D1) HZ.out
        rw [HV.out] at h1
        refine h1.mono ?_
        rintro e v2 ⟨rfl, N2⟩
        clear h1
        have D2 := D1.trans N2
        clear c0 c1 c2 c3 c4 c5 c6 c7
        obtain ⟨c0, c1, c2, c3, c4, c5, c6, c7⟩ := HBX.out.aft D2
        dsimp only at c0 c1 c2 c3 c4 c5 c6 c7
        go_wp2_with fail
        have h1 := awake_any v2 (tabs_aft HT.out D2)
        refine h1.mono ?_
        rintro e v3 ⟨rfl, N3⟩
        clear h1
        have D3 := D2.trans N3
        go_wp2
        go_ret
        exact ⟨by first | rfl | simp, HA.out.trans D3⟩
      · obtain ⟨i, hi, h1, h2⟩ := level hL (k := 3) (n := j) (by omega) (pow4 hL.ok hj9)
        have hWP := words_parts hL hi h1 h2 rfl
        obtain ⟨P, hP⟩ : ∃ P, bs { x with sub := 0, le := ⟨#[]⟩ } ^ (i + 1) = P := ⟨_, rfl⟩
        have hP8 := (pow_bounds hbs (show i + 1 ≤ 3 by omega)).2
        have hp10 := hL.pow i
        have HPW := Lib.hid (fun w0 => power_any (bs { x with sub := 0, le := ⟨#[]⟩ }) j i P w0 hbs (by omega) hP (by rw [← hP]; exact h1) (.inr h2))
        rw [← hbase] at HPW
        rw [hP] at hWP hP8 hp10 h1
        have hr2 : (j : Int).tmod (P : Int) = ((j % P : Nat) : Int) := by rw [Int.tmod_eq_emod_of_nonneg (by omega)]; simp
        have hRP := Nat.mod_le j P
        have hRL := Nat.mod_lt j (show 0 < P by omega)
        have hpz : ¬ (P : Int) = 0 := by omega
        have hpzn : ¬ P = 0 := by omega
        have hm1 : (j : Int) - ((j % P : Nat) : Int) = ((j - j % P : Nat) : Int) := by omega
        generalize hR : j % P = R at *
        obtain ⟨M, hM⟩ : ∃ M, j - R = M := ⟨_, rfl⟩
        rw [hM] at hm1 hWP
        have hM9 : M ≤ 9999 := by omega
        have hR9 : R ≤ 9999 := by omega
        have HWP := Lib.hid hWP
        have HJ := Lib.hid (words_ok HV.out hj9)
        have HM := Lib.hid (words_ok HV.out hM9)
        have HR := Lib.hid (words_ok HV.out hR9)
        have HHP := Lib.hid (show 10 ≤ P ∧ P ≤ 8000 ∧ P ≤ j from ⟨hp10, hP8, h1⟩)
        have hp1 := hp10
        clear hWP hbase hbs hL hP h2 hM h1 hR
        by_cases hR0 : R = 0
        · subst hR0
          go_enter Tryd.func7, Tryd.ntmps7
          obtain ⟨c0, c1, c2, c3, c4, c5, c6, c7⟩ := HBX.out
          dsimp only at c0 c1 c2 c3 c4 c5 c6 c7
          go_wp2_with fail
          have h1 := small_any { x with sub := 0, le := ⟨#[]⟩ } (w.alloc (.cells #[.int .i64 x.base, .slice x.da x.dn x.dc, .slice x.pa x.pn x.pc, .bool x.sf, .string x.jo, .int .i64 0, .string ⟨#[]⟩, .bool x.om] 24))
          rw [HSM.out] at h1
          refine h1.mono ?_
          rintro e v1 ⟨rfl, N1⟩
          clear h1
          have D1 := N1
          clear c0 c1 c2 c3 c4 c5 c6 c7
          obtain ⟨c0, c1, c2, c3, c4, c5, c6, c7⟩ := HBX.out.aft D1
          dsimp only at c0 c1 c2 c3 c4 c5 c6 c7
          go_wp2_with fail
          have h1 := valid_any { x with sub := 0, le := ⟨#[]⟩ } v1 (tabs_aft HT.out D1) (HW.out.aft D1) HZ.out
          rw [HV.out] at h1
          refine h1.mono ?_
          rintro e v2 ⟨rfl, N2⟩
          clear h1
          have D2 := D1.trans N2
          clear c0 c1 c2 c3 c4 c5 c6 c7
          obtain ⟨c0, c1, c2, c3, c4, c5, c6, c7⟩ := HBX.out.aft D2
          dsimp only at c0 c1 c2 c3 c4 c5 c6 c7
          go_wp2_with fail
          have h1 := HPW.out v2
          refine h1.mono ?_
          rintro e v' ⟨rfl, rfl⟩
          clear h1
          go_wp2_with fail
          have h1 := awake_any v2 (tabs_aft HT.out D2)
          refine h1.mono ?_
          rintro e v3 ⟨rfl, N3⟩
          clear h1
          have D3 := D2.trans N3
          go_wp2
          go_ret
          exact ⟨by first | rfl | simp, HA.out.trans D3⟩
        · have hRi : ¬ (R : Int) = 0 := by omega
          have hRb : ((R : Int) == 0) = false := by first | (simp; done) | (simp; omega)
          have HWQ := Lib.hid (HWP.out hR0)
          clear hR0
          have hwM : IntKind.i64.wrap (M : Int) = (M : Int) := wrap_small _ (by omega) (by omega)
          have hwR : IntKind.i64.wrap (R : Int) = (R : Int) := wrap_small _ (by omega) (by omega)
          go_enter Tryd.func7, Tryd.ntmps7
          obtain ⟨c0, c1, c2, c3, c4, c5, c6, c7⟩ := HBX.out
          dsimp only at c0 c1 c2 c3 c4 c5 c6 c7
          go_wp2_with fail
          have h1 := small_any { x with sub := 0, le := ⟨#[]⟩ } (w.alloc (.cells #[.int .i64 x.base, .slice x.da x.dn x.dc, .slice x.pa x.pn x.pc, .bool x.sf, .string x.jo, .int .i64 0, .string ⟨#[]⟩, .bool x.om] 24))
          rw [HSM.out] at h1
          refine h1.mono ?_
          rintro e v1 ⟨rfl, N1⟩
          clear h1
          have D1 := N1
          clear c0 c1 c2 c3 c4 c5 c6 c7
          obtain ⟨c0, c1, c2, c3, c4, c5, c6, c7⟩ := HBX.out.aft D1
          dsimp only at c0 c1 c2 c3 c4 c5 c6 c7
          go_wp2_with fail
          have h1 := valid_any { x with sub := 0, le := ⟨#[]⟩ } v1 (tabs_aft HT.out D1) (HW.out.aft D1) HZ.out
          rw [HV.out] at h1
          refine h1.mono ?_
          rintro e v2 ⟨rfl, N2⟩
          clear h1
          have D2 := D1.trans N2
          clear c0 c1 c2 c3 c4 c5 c6 c7
          obtain ⟨c0, c1, c2, c3, c4, c5, c6, c7⟩ := HBX.out.aft D2
          dsimp only at c0 c1 c2 c3 c4 c5 c6 c7
          go_wp2_with fail
          have h1 := HPW.out v2
          refine h1.mono ?_
          rintro e v' ⟨rfl, rfl⟩
          clear h1
          go_wp2
          clear c0 c1 c2 c3 c4 c5 c6 c7
          have HWC := Lib.hid (show ∀ (m : Nat) w', m ≤ 9999 → Aft (w.alloc (.cells #[.int .i64 x.base, .slice x.da x.dn x.dc, .slice x.pa x.pn x.pc, .bool x.sf, .string x.jo, .int .i64 0, .string ⟨#[]⟩, .bool x.om] 24)) w' → Calls Tryd.prog 18 #[nV { x with sub := 0, le := ⟨#[]⟩ }, .int .i64 (m : Int)] w' (SlErr w' (wordsB { x with sub := 0, le := ⟨#[]⟩ } m) 0) from fun m w' hm a => by have h := words_any { x with sub := 0, le := ⟨#[]⟩ } (m : Int) w' (tabs_aft HT.out a) (HW.out.aft a) HZ.out; rw [words_ok HV.out hm] at h; exact h)
          have DD := Lib.hid D2
          have HSX := Lib.hid (show ∀ w', Aft (w.alloc (.cells #[.int .i64 x.base, .slice x.da x.dn x.dc, .slice x.pa x.pn x.pc, .bool x.sf, .string x.jo, .int .i64 0, .string ⟨#[]⟩, .bool x.om] 24)) w' → (fun w' => Aft (w.alloc (.cells #[.int .i64 x.base, .slice x.da x.dn x.dc, .slice x.pa x.pn x.pc, .bool x.sf, .string x.jo, .int .i64 0, .string ⟨#[]⟩, .bool x.om] 24)) w' ∧ w'.cell? ⟨w.heap.size, 0, none⟩ = some (.int .i64 x.base) ∧ w'.cell? ⟨w.heap.size, 1, none⟩ = some (.slice x.da x.dn x.dc) ∧ w'.cell? ⟨w.heap.size, 2, none⟩ = some (.slice x.pa x.pn x.pc) ∧ w'.cell? ⟨w.heap.size, 3, none⟩ = some (.bool x.sf) ∧ w'.cell? ⟨w.heap.size, 4, none⟩ = some (.string x.jo) ∧ w'.cell? ⟨w.heap.size, 5, none⟩ = some (.int .i64 0) ∧ w'.cell? ⟨w.heap.size, 6, none⟩ = some (.string ⟨#[]⟩) ∧ w'.cell? ⟨w.heap.size, 7, none⟩ = some (.bool x.om)) w' from fun w' a => ⟨a, (HBX.out.aft a).c0, (HBX.out.aft a).c1, (HBX.out.aft a).c2, (HBX.out.aft a).c3, (HBX.out.aft a).c4, (HBX.out.aft a).c5, (HBX.out.aft a).c6, (HBX.out.aft a).c7⟩)
          refine wp_region_held_drew (S := fun w' => Aft (w.alloc (.cells #[.int .i64 x.base, .slice x.da x.dn x.dc, .slice x.pa x.pn x.pc, .bool x.sf, .string x.jo, .int .i64 0, .string ⟨#[]⟩, .bool x.om] 24)) w' ∧ w'.cell? ⟨w.heap.size, 0, none⟩ = some (.int .i64 x.base) ∧ w'.cell? ⟨w.heap.size, 1, none⟩ = some (.slice x.da x.dn x.dc) ∧ w'.cell? ⟨w.heap.size, 2, none⟩ = some (.slice x.pa x.pn x.pc) ∧ w'.cell? ⟨w.heap.size, 3, none⟩ = some (.bool x.sf) ∧ w'.cell? ⟨w.heap.size, 4, none⟩ = some (.string x.jo) ∧ w'.cell? ⟨w.heap.size, 5, none⟩ = some (.int .i64 0) ∧ w'.cell? ⟨w.heap.size, 6, none⟩ = some (.string ⟨#[]⟩) ∧ w'.cell? ⟨w.heap.size, 7, none⟩ = some (.bool x.om)) (by kernel_rfl) (HSX.out _ (by first | exact DD.out | exact Aft.drewN DD.out _ | exact Below.drew DD.out)) (fun hHeld => ?_)
          refine take_on (i := 0) (v := ?v9130) rfl (by kernel_rfl) (by kernel_rfl) (by kernel_rfl) (fun _ _ _ h => h) (by rfl) (by assumption) ?y9130 ?_
          case y9130 => (intro w hSw; (try dsimp only at hSw); go_simp; (try with_reducible rfl))
          try simp only [Act.put, List.setIfInBounds_toArray, List.set_cons_zero, List.set_cons_succ]
          refine take_on (i := 1) (v := ?v9131) rfl (by kernel_rfl) (by kernel_rfl) (by kernel_rfl) (fun _ _ _ h => h) (by rfl) (by assumption) ?y9131 ?_
          case y9131 => (intro w hSw; (try dsimp only at hSw); go_simp; (try with_reducible rfl))
          try simp only [Act.put, List.setIfInBounds_toArray, List.set_cons_zero, List.set_cons_succ]
          refine take_on (i := 2) (v := ?v9132) rfl (by kernel_rfl) (by kernel_rfl) (by kernel_rfl) (fun _ _ _ h => h) (by rfl) (by assumption) ?y9132 ?_
          case y9132 => (intro w hSw; (try dsimp only at hSw); go_simp; (try with_reducible rfl))
          try simp only [Act.put, List.setIfInBounds_toArray, List.set_cons_zero, List.set_cons_succ]
          refine take_on (i := 3) (v := ?v9133) rfl (by kernel_rfl) (by kernel_rfl) (by kernel_rfl) (fun _ _ _ h => h) (by rfl) (by assumption) ?y9133 ?_
          case y9133 => (intro w hSw; (try dsimp only at hSw); go_simp; (try with_reducible rfl))
          try simp only [Act.put, List.setIfInBounds_toArray, List.set_cons_zero, List.set_cons_succ]
          refine take_on (i := 4) (v := ?v9134) rfl (by kernel_rfl) (by kernel_rfl) (by kernel_rfl) (fun _ _ _ h => h) (by rfl) (by assumption) ?y9134 ?_
          case y9134 => (intro w hSw; (try dsimp only at hSw); go_simp; (try with_reducible rfl))
          try simp only [Act.put, List.setIfInBounds_toArray, List.set_cons_zero, List.set_cons_succ]
          refine take_on (i := 5) (v := ?v9135) rfl (by kernel_rfl) (by kernel_rfl) (by kernel_rfl) (fun _ _ _ h => h) (by rfl) (by assumption) ?y9135 ?_
          case y9135 => (intro w hSw; (try dsimp only at hSw); go_simp; (try with_reducible rfl))
          try simp only [Act.put, List.setIfInBounds_toArray, List.set_cons_zero, List.set_cons_succ]
          refine one_ready (i := 6) rfl (by kernel_rfl) (by rfl) (fun K hK => ?_)
          have hA9137 := Lib.hid hHeld.1
          go_simp
          go_at_call 18
          refine (HWC.out M _ hM9 (by first | exact hA9137.out | exact Below.drew hA9137.out)).mono ?_
          rintro e' w9137 ⟨⟨Xm, nXm, qXm, rfl, rXm⟩, M9137⟩
          have C9137 := Lib.hid (show Aft (w.alloc (.cells #[.int .i64 x.base, .slice x.da x.dn x.dc, .slice x.pa x.pn x.pc, .bool x.sf, .string x.jo, .int .i64 0, .string ⟨#[]⟩, .bool x.om] 24)) w9137 from Aft.trans (by first | exact hA9137.out | exact Below.drew hA9137.out) M9137)
          have RXm := Lib.hid (show Rw sV w9137 Xm nXm qXm (wordsB { x with sub := 0, le := ⟨#[]⟩ } M) from rXm)
          have hlXm : nXm ≤ 10 := by have h8 := words_short0 { x with sub := 0, le := ⟨#[]⟩ } M; have h9 := RXm.out.len; omega
          clear rXm
          try go_simp
          refine hK.out _ _ (HSX.out _ C9137.out) (fun hHeld => ?_)
          clear hK K
          try simp only [Act.put, List.setIfInBounds_toArray, List.set_cons_zero, List.set_cons_succ]
          refine take_on (i := 7) (v := ?v9138) rfl (by kernel_rfl) (by kernel_rfl) (by kernel_rfl) (fun _ _ _ h => h) (by rfl) (by assumption) ?y9138 ?_
          case y9138 => (intro w hSw; (try dsimp only at hSw); go_simp; (try with_reducible rfl))
          try simp only [Act.put, List.setIfInBounds_toArray, List.set_cons_zero, List.set_cons_succ]
          refine take_on (i := 8) (v := ?v9139) rfl (by kernel_rfl) (by kernel_rfl) (by kernel_rfl) (fun _ _ _ h => h) (by rfl) (by assumption) ?y9139 ?_
          case y9139 => (intro w hSw; (try dsimp only at hSw); go_simp; (try with_reducible rfl))
          try simp only [Act.put, List.setIfInBounds_toArray, List.set_cons_zero, List.set_cons_succ]
          refine take_on (i := 9) (v := ?v9140) rfl (by kernel_rfl) (by kernel_rfl) (by kernel_rfl) (fun _ _ _ h => h) (by rfl) (by assumption) ?y9140 ?_
          case y9140 => (intro w hSw; (try dsimp only at hSw); go_simp; (try with_reducible rfl))
          try simp only [Act.put, List.setIfInBounds_toArray, List.set_cons_zero, List.set_cons_succ]
          refine take_on (i := 10) (v := ?v9141) rfl (by kernel_rfl) (by kernel_rfl) (by kernel_rfl) (fun _ _ _ h => h) (by rfl) (by assumption) ?y9141 ?_
          case y9141 => (intro w hSw; (try dsimp only at hSw); go_simp; (try with_reducible rfl))
          try simp only [Act.put, List.setIfInBounds_toArray, List.set_cons_zero, List.set_cons_succ]
          refine take_on (i := 11) (v := ?v9142) rfl (by kernel_rfl) (by kernel_rfl) (by kernel_rfl) (fun _ _ _ h => h) (by rfl) (by assumption) ?y9142 ?_
          case y9142 => (intro w hSw; (try dsimp only at hSw); go_simp; (try with_reducible rfl))
          try simp only [Act.put, List.setIfInBounds_toArray, List.set_cons_zero, List.set_cons_succ]
          refine wpAnyH_done (by kernel_rfl) ?_ _
          have D8 := Lib.hid hHeld.1
          clear hHeld HSX
          go_wp2
          have HSX := Lib.hid (show ∀ w', Aft (w.alloc (.cells #[.int .i64 x.base, .slice x.da x.dn x.dc, .slice x.pa x.pn x.pc, .bool x.sf, .string x.jo, .int .i64 0, .string ⟨#[]⟩, .bool x.om] 24)) w' → (fun w' => Aft (w.alloc (.cells #[.int .i64 x.base, .slice x.da x.dn x.dc, .slice x.pa x.pn x.pc, .bool x.sf, .string x.jo, .int .i64 0, .string ⟨#[]⟩, .bool x.om] 24)) w' ∧ w'.cell? ⟨w.heap.size, 0, none⟩ = some (.int .i64 x.base) ∧ w'.cell? ⟨w.heap.size, 1, none⟩ = some (.slice x.da x.dn x.dc) ∧ w'.cell? ⟨w.heap.size, 2, none⟩ = some (.slice x.pa x.pn x.pc) ∧ w'.cell? ⟨w.heap.size, 3, none⟩ = some (.bool x.sf) ∧ w'.cell? ⟨w.heap.size, 4, none⟩ = some (.string x.jo) ∧ w'.cell? ⟨w.heap.size, 5, none⟩ = some (.int .i64 0) ∧ w'.cell? ⟨w.heap.size, 6, none⟩ = some (.string ⟨#[]⟩) ∧ w'.cell? ⟨w.heap.size, 7, none⟩ = some (.bool x.om)) w' from fun w' a => ⟨a, (HBX.out.aft a).c0, (HBX.out.aft a).c1, (HBX.out.aft a).c2, (HBX.out.aft a).c3, (HBX.out.aft a).c4, (HBX.out.aft a).c5, (HBX.out.aft a).c6, (HBX.out.aft a).c7⟩)
          refine wp_region_held_drew (S := fun w' => Aft (w.alloc (.cells #[.int .i64 x.base, .slice x.da x.dn x.dc, .slice x.pa x.pn x.pc, .bool x.sf, .string x.jo, .int .i64 0, .string ⟨#[]⟩, .bool x.om] 24)) w' ∧ w'.cell? ⟨w.heap.size, 0, none⟩ = some (.int .i64 x.base) ∧ w'.cell? ⟨w.heap.size, 1, none⟩ = some (.slice x.da x.dn x.dc) ∧ w'.cell? ⟨w.heap.size, 2, none⟩ = some (.slice x.pa x.pn x.pc) ∧ w'.cell? ⟨w.heap.size, 3, none⟩ = some (.bool x.sf) ∧ w'.cell? ⟨w.heap.size, 4, none⟩ = some (.string x.jo) ∧ w'.cell? ⟨w.heap.size, 5, none⟩ = some (.int .i64 0) ∧ w'.cell? ⟨w.heap.size, 6, none⟩ = some (.string ⟨#[]⟩) ∧ w'.cell? ⟨w.heap.size, 7, none⟩ = some (.bool x.om)) (by kernel_rfl) (HSX.out _ (by first | exact D8.out | exact Aft.drewN D8.out _ | exact Below.drew D8.out)) (fun hHeld => ?_)
          refine take_on (i := 0) (v := ?v9143) rfl (by kernel_rfl) (by kernel_rfl) (by kernel_rfl) (fun _ _ _ h => h) (by rfl) (by assumption) ?y9143 ?_
          case y9143 => (intro w hSw; (try dsimp only at hSw); go_simp; (try with_reducible rfl))
          try simp only [Act.put, List.setIfInBounds_toArray, List.set_cons_zero, List.set_cons_succ]
          refine take_on (i := 1) (v := ?v9144) rfl (by kernel_rfl) (by kernel_rfl) (by kernel_rfl) (fun _ _ _ h => h) (by rfl) (by assumption) ?y9144 ?_
          case y9144 => (intro w hSw; (try dsimp only at hSw); go_simp; (try with_reducible rfl))
          try simp only [Act.put, List.setIfInBounds_toArray, List.set_cons_zero, List.set_cons_succ]
          refine take_on (i := 2) (v := ?v9145) rfl (by kernel_rfl) (by kernel_rfl) (by kernel_rfl) (fun _ _ _ h => h) (by rfl) (by assumption) ?y9145 ?_
          case y9145 => (intro w hSw; (try dsimp only at hSw); go_simp; (try with_reducible rfl))
          try simp only [Act.put, List.setIfInBounds_toArray, List.set_cons_zero, List.set_cons_succ]
          refine take_on (i := 3) (v := ?v9146) rfl (by kernel_rfl) (by kernel_rfl) (by kernel_rfl) (fun _ _ _ h => h) (by rfl) (by assumption) ?y9146 ?_
          case y9146 => (intro w hSw; (try dsimp only at hSw); go_simp; (try with_reducible rfl))
          try simp only [Act.put, List.setIfInBounds_toArray, List.set_cons_zero, List.set_cons_succ]
          refine one_ready (i := 4) rfl (by kernel_rfl) (by rfl) (fun K hK => ?_)
          have hA9148 := Lib.hid hHeld.1
          go_simp
          go_at_call 18
          refine (HWC.out R _ hR9 (by first | exact hA9148.out | exact Below.drew hA9148.out)).mono ?_
          rintro e' w9148 ⟨⟨Xr, nXr, qXr, rfl, rXr⟩, M9148⟩
          have C9148 := Lib.hid (show Aft (w.alloc (.cells #[.int .i64 x.base, .slice x.da x.dn x.dc, .slice x.pa x.pn x.pc, .bool x.sf, .string x.jo, .int .i64 0, .string ⟨#[]⟩, .bool x.om] 24)) w9148 from Aft.trans (by first | exact hA9148.out | exact Below.drew hA9148.out) M9148)
          have RXr := Lib.hid (show Rw sV w9148 Xr nXr qXr (wordsB { x with sub := 0, le := ⟨#[]⟩ } R) from rXr)
          have hlXr : nXr ≤ 10 := by have h8 := words_short0 { x with sub := 0, le := ⟨#[]⟩ } R; have h9 := RXr.out.len; omega
          clear rXr
          have Rm9 := Lib.hid (RXm.out.aft (Aft.trans (by first | exact Below.drew (Aft.refl _) | exact Aft.refl _ | exact (Aft.refl _).drewN _) M9148))
          try go_simp
          refine hK.out _ _ (HSX.out _ C9148.out) (fun hHeld => ?_)
          clear hK K
          try simp only [Act.put, List.setIfInBounds_toArray, List.set_cons_zero, List.set_cons_succ]
          refine take_on (i := 5) (v := ?v9149) rfl (by kernel_rfl) (by kernel_rfl) (by kernel_rfl) (fun _ _ _ h => h) (by rfl) (by assumption) ?y9149 ?_
          case y9149 => (intro w hSw; (try dsimp only at hSw); go_simp; (try with_reducible rfl))
          try simp only [Act.put, List.setIfInBounds_toArray, List.set_cons_zero, List.set_cons_succ]
          refine take_on (i := 6) (v := ?v9150) rfl (by kernel_rfl) (by kernel_rfl) (by kernel_rfl) (fun _ _ _ h => h) (by rfl) (by assumption) ?y9150 ?_
          case y9150 => (intro w hSw; (try dsimp only at hSw); go_simp; (try with_reducible rfl))
          try simp only [Act.put, List.setIfInBounds_toArray, List.set_cons_zero, List.set_cons_succ]
          refine take_on (i := 7) (v := ?v9151) rfl (by kernel_rfl) (by kernel_rfl) (by kernel_rfl) (fun _ _ _ h => h) (by rfl) (by assumption) ?y9151 ?_
          case y9151 => (intro w hSw; (try dsimp only at hSw); go_simp; (try with_reducible rfl))
          try simp only [Act.put, List.setIfInBounds_toArray, List.set_cons_zero, List.set_cons_succ]
          refine take_on (i := 8) (v := ?v9152) rfl (by kernel_rfl) (by kernel_rfl) (by kernel_rfl) (fun _ _ _ h => h) (by rfl) (by assumption) ?y9152 ?_
          case y9152 => (intro w hSw; (try dsimp only at hSw); go_simp; (try with_reducible rfl))
          try simp only [Act.put, List.setIfInBounds_toArray, List.set_cons_zero, List.set_cons_succ]
          refine take_on (i := 9) (v := ?v9153) rfl (by kernel_rfl) (by kernel_rfl) (by kernel_rfl) (fun _ _ _ h => h) (by rfl) (by assumption) ?y9153 ?_
          case y9153 => (intro w hSw; (try dsimp only at hSw); go_simp; (try with_reducible rfl))
          try simp only [Act.put, List.setIfInBounds_toArray, List.set_cons_zero, List.set_cons_succ]
          refine wpAnyH_done (by kernel_rfl) ?_ _
          have D9 := Lib.hid hHeld.1
          clear hHeld HSX
          obtain ⟨c0, c1, c2, c3, c4, c5, c6, c7⟩ := HBX.out.aft D9.out
          dsimp only at c0 c1 c2 c3 c4 c5 c6 c7
          go_wp2_with fail
          refine (HWC.out j _ hj9 D9.out).mono ?_
          rintro e w10 ⟨⟨Xa, na, qa, rfl, ra⟩, N10⟩
          have RA := Lib.hid (show Rw sV w10 Xa na qa (wordsB { x with sub := 0, le := ⟨#[]⟩ } j) from ra)
          have Rm10 := Lib.hid (Rm9.out.aft N10)
          have Rr10 := Lib.hid (RXr.out.aft N10)
          have D10 := Lib.hid (D9.out.trans N10)
          clear ra N10 c0 c1 c2 c3 c4 c5 c6 c7
          obtain ⟨i0, hi, hz0, hz1, hz2⟩ := infoS_parts
          have HO0 := Lib.hid (show (w10.alloc (.cells #[] 9)).ownsRow w10.heap.size 9 1 (.slice (some ⟨w10.heap.size, 0, none⟩) 0 0) 0 [] from World.ownsRow_lit w10 #[] 0 (Nat.le_refl _) (by unfold maxLen; omega) rfl)
          have HA0 := Lib.hid (show Aft w10 (w10.alloc (.cells #[] 9)) from (Aft.refl w10).alloc _)
          have hs0 := HA0.out.size
          have e4 : w10.cell? ⟨w.heap.size, 4, none⟩ = some (.string x.jo) := (HBX.out.aft D10.out).c4
          have hej := empty_iff x.jo
          cases hsf : x.sf
          · have e3 : w10.cell? ⟨w.heap.size, 3, none⟩ = some (.bool false) := by rw [← hsf]; exact (HBX.out.aft D10.out).c3
            by_cases hj0 : x.jo.size = 0
            · have HEQ := Lib.hid (show wordsB { x with sub := 0, le := ⟨#[]⟩ } j = ([] ++ wordsB { x with sub := 0, le := ⟨#[]⟩ } M) ++ wordsB { x with sub := 0, le := ⟨#[]⟩ } R by rw [HWQ.out, hsf]; simp [joL, hj0])
              rw [decide_eq_true hj0] at hej
              clear hsf hj0
              have RF0 := Lib.hid (Rm10.out.aft HA0.out)
              go_wp2_with (first
                | (at_builtin; refine wpList_append_any rfl _ _ 22 rfl w10.heap.size 9 i0 _ 1 16 Tryd.underlying22 hi hz0 hz1 hz2 rfl (by decide) _ _ _ rfl HO0.out Xm nXm qXm ((wordsB { x with sub := 0, le := ⟨#[]⟩ } M).map sV) rfl (by rw [List.length_map, RF0.out.len, Nat.mul_one]) (fun e => by have h1 := (RF0.out).nl e; have h2 := (RF0.out).le; omega) (fun ad e => by subst e; exact news_of (RF0.out)) (map_one (fun _ => rfl) _) (by unfold maxLen; omega) (by omega) (by first | omega | (simp; done) | (simp; omega)) ?_; intro v1 w11 own1 grow1; have A11 : Aft w10 w11 := HA0.out.grown grow1 (fun k e => (HO0.out.lt k e).1); have hs11 := A11.size; have HO1 := Lib.hid own1; have HA11 := Lib.hid A11; have e411 := A11.cell e4; have RS1 := Lib.hid (Rr10.out.aft A11); clear own1 grow1 A11)
                | (at_builtin; refine wpList_append_any rfl _ _ 22 rfl w10.heap.size 9 i0 _ 1 16 Tryd.underlying22 hi hz0 hz1 hz2 rfl (by decide) _ _ _ rfl HO1.out Xr nXr qXr ((wordsB { x with sub := 0, le := ⟨#[]⟩ } R).map sV) rfl (by rw [List.length_map, RS1.out.len, Nat.mul_one]) (fun e => by have h1 := (RS1.out).nl e; have h2 := (RS1.out).le; omega) (fun ad e => by subst e; exact news_of (RS1.out)) (map_one (fun _ => rfl) _) (by unfold maxLen; omega) (by omega) (by first | omega | (simp; done) | (simp; omega)) ?_; intro v3 w13 own3 grow3; have A13 : Aft w10 w13 := HA11.out.grown grow3 (fun k e => (HO1.out.lt k e).1); obtain ⟨N3, hN3⟩ : ∃ N3, 0 + nXm + nXr = N3 := ⟨_, rfl⟩; rw [hN3] at own3; obtain ⟨X3, q3, rfl, hX3⟩ := Rw.of_row (enc := sV) (l := ([] ++ wordsB { x with sub := 0, le := ⟨#[]⟩ } M) ++ wordsB { x with sub := 0, le := ⟨#[]⟩ } R) (by simpa using own3) (by have l1 := RF0.out.len; have l2 := RS1.out.len; simp; omega); have HX3 := Lib.hid hX3; have HA13 := Lib.hid A13; clear own3 grow3 hX3 A13 hN3))
              refine (awake_any _ (tabs_aft HT.out (D10.out.trans HA13.out))).mono ?_
              rintro e w14 ⟨rfl, N14⟩
              go_wp2_with fail
              have h1 := texts_any Xa na qa (wordsB { x with sub := 0, le := ⟨#[]⟩ } j) X3 N3 q3 _ w14 (RA.out.aft (HA13.out.trans N14)) (HX3.out.aft N14)
              rw [decide_eq_true HEQ.out] at h1
              refine h1.mono ?_
              rintro e w15 ⟨rfl, N15⟩
              go_wp2
              go_ret
              exact ⟨by first | rfl | simp, HA.out.trans (D10.out.trans (HA13.out.trans (N14.trans N15)))⟩
            · have HEQ := Lib.hid (show wordsB { x with sub := 0, le := ⟨#[]⟩ } j = (([] ++ wordsB { x with sub := 0, le := ⟨#[]⟩ } M) ++ [x.jo]) ++ wordsB { x with sub := 0, le := ⟨#[]⟩ } R by rw [HWQ.out, hsf]; simp [joL, hj0])
              rw [decide_eq_false hj0] at hej
              clear hsf hj0
              have RF0 := Lib.hid (Rm10.out.aft HA0.out)
              go_wp2_with (first
                | (at_builtin; refine wpList_append_any rfl _ _ 22 rfl w10.heap.size 9 i0 _ 1 16 Tryd.underlying22 hi hz0 hz1 hz2 rfl (by decide) _ _ _ rfl HO0.out Xm nXm qXm ((wordsB { x with sub := 0, le := ⟨#[]⟩ } M).map sV) rfl (by rw [List.length_map, RF0.out.len, Nat.mul_one]) (fun e => by have h1 := (RF0.out).nl e; have h2 := (RF0.out).le; omega) (fun ad e => by subst e; exact news_of (RF0.out)) (map_one (fun _ => rfl) _) (by unfold maxLen; omega) (by omega) (by first | omega | (simp; done) | (simp; omega)) ?_; intro v1 w11 own1 grow1; have A11 : Aft w10 w11 := HA0.out.grown grow1 (fun k e => (HO0.out.lt k e).1); have hs11 := A11.size; have HO1 := Lib.hid own1; have HA11 := Lib.hid A11; have e411 := A11.cell e4; have RS1 := Lib.hid (Rr10.out.aft A11); clear own1 grow1 A11)
                | (at_builtin; refine wpList_append_any rfl _ _ 22 rfl w10.heap.size 9 i0 _ 1 16 Tryd.underlying22 hi hz0 hz1 hz2 rfl (by decide) _ _ _ rfl (HO1.out.alloc _) (some ⟨w11.heap.size, 0, none⟩) 1 1 ([x.jo].map sV) rfl rfl (fun e => (by cases e)) (fun ad e => by cases e; exact news_of (row1 (by simp))) (map_one (fun _ => rfl) _) (by unfold maxLen; omega) (by omega) (by first | omega | (simp; done) | (simp; omega)) ?_; intro v2 w12 own2 grow2; have A12 : Aft w10 w12 := (HA11.out.alloc _).grown grow2 (fun k e => (HO1.out.lt k e).1); have hs12 := A12.size; have HO2 := Lib.hid own2; have HA12 := Lib.hid A12; have RS2 := Lib.hid (Rr10.out.aft A12); clear own2 grow2 A12)
                | (at_builtin; refine wpList_append_any rfl _ _ 22 rfl w10.heap.size 9 i0 _ 1 16 Tryd.underlying22 hi hz0 hz1 hz2 rfl (by decide) _ _ _ rfl HO2.out Xr nXr qXr ((wordsB { x with sub := 0, le := ⟨#[]⟩ } R).map sV) rfl (by rw [List.length_map, RS2.out.len, Nat.mul_one]) (fun e => by have h1 := (RS2.out).nl e; have h2 := (RS2.out).le; omega) (fun ad e => by subst e; exact news_of (RS2.out)) (map_one (fun _ => rfl) _) (by unfold maxLen; omega) (by omega) (by first | omega | (simp; done) | (simp; omega)) ?_; intro v3 w13 own3 grow3; have A13 : Aft w10 w13 := HA12.out.grown grow3 (fun k e => (HO2.out.lt k e).1); obtain ⟨N3, hN3⟩ : ∃ N3, 0 + nXm + 1 + nXr = N3 := ⟨_, rfl⟩; rw [hN3] at own3; obtain ⟨X3, q3, rfl, hX3⟩ := Rw.of_row (enc := sV) (l := (([] ++ wordsB { x with sub := 0, le := ⟨#[]⟩ } M) ++ [x.jo]) ++ wordsB { x with sub := 0, le := ⟨#[]⟩ } R) (by simpa using own3) (by have l1 := RF0.out.len; have l2 := RS2.out.len; simp; omega); have HX3 := Lib.hid hX3; have HA13 := Lib.hid A13; clear own3 grow3 hX3 A13 hN3))
              refine (awake_any _ (tabs_aft HT.out (D10.out.trans HA13.out))).mono ?_
              rintro e w14 ⟨rfl, N14⟩
              go_wp2_with fail
              have h1 := texts_any Xa na qa (wordsB { x with sub := 0, le := ⟨#[]⟩ } j) X3 N3 q3 _ w14 (RA.out.aft (HA13.out.trans N14)) (HX3.out.aft N14)
              rw [decide_eq_true HEQ.out] at h1
              refine h1.mono ?_
              rintro e w15 ⟨rfl, N15⟩
              go_wp2
              go_ret
              exact ⟨by first | rfl | simp, HA.out.trans (D10.out.trans (HA13.out.trans (N14.trans N15)))⟩
          · have e3 : w10.cell? ⟨w.heap.size, 3, none⟩ = some (.bool true) := by rw [← hsf]; exact (HBX.out.aft D10.out).c3
            by_cases hj0 : x.jo.size = 0
            · have HEQ := Lib.hid (show wordsB { x with sub := 0, le := ⟨#[]⟩ } j = ([] ++ wordsB { x with sub := 0, le := ⟨#[]⟩ } R) ++ wordsB { x with sub := 0, le := ⟨#[]⟩ } M by rw [HWQ.out, hsf]; simp [joL, hj0])
              rw [decide_eq_true hj0] at hej
              clear hsf hj0
              have RF0 := Lib.hid (Rr10.out.aft HA0.out)
              go_wp2_with (first
                | (at_builtin; refine wpList_append_any rfl _ _ 22 rfl w10.heap.size 9 i0 _ 1 16 Tryd.underlying22 hi hz0 hz1 hz2 rfl (by decide) _ _ _ rfl HO0.out Xr nXr qXr ((wordsB { x with sub := 0, le := ⟨#[]⟩ } R).map sV) rfl (by rw [List.length_map, RF0.out.len, Nat.mul_one]) (fun e => by have h1 := (RF0.out).nl e; have h2 := (RF0.out).le; omega) (fun ad e => by subst e; exact news_of (RF0.out)) (map_one (fun _ => rfl) _) (by unfold maxLen; omega) (by omega) (by first | omega | (simp; done) | (simp; omega)) ?_; intro v1 w11 own1 grow1; have A11 : Aft w10 w11 := HA0.out.grown grow1 (fun k e => (HO0.out.lt k e).1); have hs11 := A11.size; have HO1 := Lib.hid own1; have HA11 := Lib.hid A11; have e411 := A11.cell e4; have RS1 := Lib.hid (Rm10.out.aft A11); clear own1 grow1 A11)
                | (at_builtin; refine wpList_append_any rfl _ _ 22 rfl w10.heap.size 9 i0 _ 1 16 Tryd.underlying22 hi hz0 hz1 hz2 rfl (by decide) _ _ _ rfl HO1.out Xm nXm qXm ((wordsB { x with sub := 0, le := ⟨#[]⟩ } M).map sV) rfl (by rw [List.length_map, RS1.out.len, Nat.mul_one]) (fun e => by have h1 := (RS1.out).nl e; have h2 := (RS1.out).le; omega) (fun ad e => by subst e; exact news_of (RS1.out)) (map_one (fun _ => rfl) _) (by unfold maxLen; omega) (by omega) (by first | omega | (simp; done) | (simp; omega)) ?_; intro v3 w13 own3 grow3; have A13 : Aft w10 w13 := HA11.out.grown grow3 (fun k e => (HO1.out.lt k e).1); obtain ⟨N3, hN3⟩ : ∃ N3, 0 + nXr + nXm = N3 := ⟨_, rfl⟩; rw [hN3] at own3; obtain ⟨X3, q3, rfl, hX3⟩ := Rw.of_row (enc := sV) (l := ([] ++ wordsB { x with sub := 0, le := ⟨#[]⟩ } R) ++ wordsB { x with sub := 0, le := ⟨#[]⟩ } M) (by simpa using own3) (by have l1 := RF0.out.len; have l2 := RS1.out.len; simp; omega); have HX3 := Lib.hid hX3; have HA13 := Lib.hid A13; clear own3 grow3 hX3 A13 hN3))
              refine (awake_any _ (tabs_aft HT.out (D10.out.trans HA13.out))).mono ?_
              rintro e w14 ⟨rfl, N14⟩
              go_wp2_with fail
              have h1 := texts_any Xa na qa (wordsB { x with sub := 0, le := ⟨#[]⟩ } j) X3 N3 q3 _ w14 (RA.out.aft (HA13.out.trans N14)) (HX3.out.aft N14)
              rw [decide_eq_true HEQ.out] at h1
              refine h1.mono ?_
              rintro e w15 ⟨rfl, N15⟩
              go_wp2
              go_ret
              exact ⟨by first | rfl | simp, HA.out.trans (D10.out.trans (HA13.out.trans (N14.trans N15)))⟩
            · have HEQ := Lib.hid (show wordsB { x with sub := 0, le := ⟨#[]⟩ } j = (([] ++ wordsB { x with sub := 0, le := ⟨#[]⟩ } R) ++ [x.jo]) ++ wordsB { x with sub := 0, le := ⟨#[]⟩ } M by rw [HWQ.out, hsf]; simp [joL, hj0])
              rw [decide_eq_false hj0] at hej
              clear hsf hj0
              have RF0 := Lib.hid (Rr10.out.aft HA0.out)
              go_wp2_with (first
                | (at_builtin; refine wpList_append_any rfl _ _ 22 rfl w10.heap.size 9 i0 _ 1 16 Tryd.underlying22 hi hz0 hz1 hz2 rfl (by decide) _ _ _ rfl HO0.out Xr nXr qXr ((wordsB { x with sub := 0, le := ⟨#[]⟩ } R).map sV) rfl (by rw [List.length_map, RF0.out.len, Nat.mul_one]) (fun e => by have h1 := (RF0.out).nl e; have h2 := (RF0.out).le; omega) (fun ad e => by subst e; exact news_of (RF0.out)) (map_one (fun _ => rfl) _) (by unfold maxLen; omega) (by omega) (by first | omega | (simp; done) | (simp; omega)) ?_; intro v1 w11 own1 grow1; have A11 : Aft w10 w11 := HA0.out.grown grow1 (fun k e => (HO0.out.lt k e).1); have hs11 := A11.size; have HO1 := Lib.hid own1; have HA11 := Lib.hid A11; have e411 := A11.cell e4; have RS1 := Lib.hid (Rm10.out.aft A11); clear own1 grow1 A11)
                | (at_builtin; refine wpList_append_any rfl _ _ 22 rfl w10.heap.size 9 i0 _ 1 16 Tryd.underlying22 hi hz0 hz1 hz2 rfl (by decide) _ _ _ rfl (HO1.out.alloc _) (some ⟨w11.heap.size, 0, none⟩) 1 1 ([x.jo].map sV) rfl rfl (fun e => (by cases e)) (fun ad e => by cases e; exact news_of (row1 (by simp))) (map_one (fun _ => rfl) _) (by unfold maxLen; omega) (by omega) (by first | omega | (simp; done) | (simp; omega)) ?_; intro v2 w12 own2 grow2; have A12 : Aft w10 w12 := (HA11.out.alloc _).grown grow2 (fun k e => (HO1.out.lt k e).1); have hs12 := A12.size; have HO2 := Lib.hid own2; have HA12 := Lib.hid A12; have RS2 := Lib.hid (Rm10.out.aft A12); clear own2 grow2 A12)
                | (at_builtin; refine wpList_append_any rfl _ _ 22 rfl w10.heap.size 9 i0 _ 1 16 Tryd.underlying22 hi hz0 hz1 hz2 rfl (by decide) _ _ _ rfl HO2.out Xm nXm qXm ((wordsB { x with sub := 0, le := ⟨#[]⟩ } M).map sV) rfl (by rw [List.length_map, RS2.out.len, Nat.mul_one]) (fun e => by have h1 := (RS2.out).nl e; have h2 := (RS2.out).le; omega) (fun ad e => by subst e; exact news_of (RS2.out)) (map_one (fun _ => rfl) _) (by unfold maxLen; omega) (by omega) (by first | omega | (simp; done) | (simp; omega)) ?_; intro v3 w13 own3 grow3; have A13 : Aft w10 w13 := HA12.out.grown grow3 (fun k e => (HO2.out.lt k e).1); obtain ⟨N3, hN3⟩ : ∃ N3, 0 + nXr + 1 + nXm = N3 := ⟨_, rfl⟩; rw [hN3] at own3; obtain ⟨X3, q3, rfl, hX3⟩ := Rw.of_row (enc := sV) (l := (([] ++ wordsB { x with sub := 0, le := ⟨#[]⟩ } R) ++ [x.jo]) ++ wordsB { x with sub := 0, le := ⟨#[]⟩ } M) (by simpa using own3) (by have l1 := RF0.out.len; have l2 := RS2.out.len; simp; omega); have HX3 := Lib.hid hX3; have HA13 := Lib.hid A13; clear own3 grow3 hX3 A13 hN3))
              refine (awake_any _ (tabs_aft HT.out (D10.out.trans HA13.out))).mono ?_
              rintro e w14 ⟨rfl, N14⟩
              go_wp2_with fail
              have h1 := texts_any Xa na qa (wordsB { x with sub := 0, le := ⟨#[]⟩ } j) X3 N3 q3 _ w14 (RA.out.aft (HA13.out.trans N14)) (HX3.out.aft N14)
              rw [decide_eq_true HEQ.out] at h1
              refine h1.mono ?_
              rintro e w15 ⟨rfl, N15⟩
              go_wp2
              go_ret
              exact ⟨by first | rfl | simp, HA.out.trans (D10.out.trans (HA13.out.trans (N14.trans N15)))⟩
  · have HSM := Lib.hid (small_no (x := { x with sub := 0, le := ⟨#[]⟩ }) hsm)
    clear hsm
    go_enter Tryd.func7, Tryd.ntmps7
    obtain ⟨c0, c1, c2, c3, c4, c5, c6, c7⟩ := HBX.out
    dsimp only at c0 c1 c2 c3 c4 c5 c6 c7
    go_wp2_with fail
    have h1 := small_any { x with sub := 0, le := ⟨#[]⟩ } (w.alloc (.cells #[.int .i64 x.base, .slice x.da x.dn x.dc, .slice x.pa x.pn x.pc, .bool x.sf, .string x.jo, .int .i64 0, .string ⟨#[]⟩, .bool x.om] 24))
    rw [HSM.out] at h1
    refine h1.mono ?_
    rintro e v1 ⟨rfl, N1⟩
    clear h1
    have D1 := N1
    clear c0 c1 c2 c3 c4 c5 c6 c7
    go_wp2_with fail
    have h1 := awake_any v1 (tabs_aft HT.out D1)
    refine h1.mono ?_
    rintro e v2 ⟨rfl, N2⟩
    clear h1
    have D2 := D1.trans N2
    go_wp2
    go_ret
    exact ⟨by first | rfl | simp, HA.out.trans D2⟩

theorem own : ownKnob Tryd.prog.godebug = none := by kernel_rfl
theorem laidOut : laidOutB Tryd.prog = true := by kernel_rfl

set_option maxRecDepth 100000 in
theorem contract (H : Type) (enc : TypeId × Value → H) (W : World) (base : Nat) (args : Array Value) (ds gs : List (DataW H)) (before : List MemPlace)
    (hval : ∀ (j : Nat) t v, Tryd.f7.params[j]? = some t → args[j]? = some v → Value.okWide Tryd.prog W .any base t v)
    (hW : DataW.Whole enc Tryd.prog Tryd.f7.params.toList Rows.numeralPartsSpec.vars false W args.toList ds gs before) (hsz0 : (DataW.weightsEach Tryd.prog (Tryd.f7.params.toList ++ Rows.numeralPartsSpec.plain.varTypes Tryd.prog) (ds ++ gs)).all (· ≤ reachBytes) = true) (hL : laidMetH Tryd.prog listed W) :
    Calls Tryd.prog 7 args W fun e W' => ∃ v, e = .returned v ∧ Rows.numeralPartsSpec.post enc Tryd.prog Tryd.f7 false true false false W args v W' := by
  have hW' := hW
  obtain ⟨p, q, hA0, hV, rfl, hfz, hnd⟩ := hW
  have hA : DataW.TrodAll enc Tryd.prog W 0 (fun _ => true) true Tryd.f7.params.toList args.toList ds p := hA0
  have hsz := hsz0
  rw [Tryd.params7] at hA hval hsz
  obtain ⟨v0, vs0, d0, ds0, p0, q0, hargs, rfl, rfl, h0, r0⟩ := trodAll_cons hA
  obtain ⟨v1, vs1, d1, ds1, p1, q1, rfl, rfl, rfl, h1, r1⟩ := trodAll_cons r0
  obtain ⟨rfl, rfl, rfl⟩ := trodAll_nil r1
  obtain rfl : args = #[v0, v1] := by cases args; simp_all
  obtain ⟨rfl, rfl⟩ := trodVars_none hV
  have lt0 : ∀ x ∈ p0, x.block < W.heap.size := by obtain ⟨m, hm⟩ := h0; exact DataW.trod_lt m _ _ _ hm
  obtain ⟨xs0, rfl, sn0, sz0, zb0, zs0⟩ := sys_of (okWide_struct Tryd.underlying24 (hval 0 24 v0 rfl rfl)) h0
  obtain ⟨xs1, rfl, rfl, rfl, z1⟩ := open_int Tryd.underlying43 (hval 1 43 v1 rfl rfl) h1
  clear hA0
  refine (walk xs0 xs1 W (tabs_of hL) sn0 sz0 zb0 zs0 z1).mono fun e W' ⟨he, bel⟩ => ?_
  subst he
  exact ⟨_, rfl, _, _, _, [], _, [], hW', trodAll_mk1 (shut_bool Tryd.underlying4 _), (trodAll_cons_mk (Below.trod laidOut (by kernel_rfl) (of_decide_eq_true (by kernel_rfl)) h0 bel lt0) (trodAll_cons_mk (shut_int Tryd.underlying43 z1) trodAll_mk0)), rfl, Below.frame bel _, fun h => by cases h⟩

theorem witness_row (os : Os) {H : Type} (enc : TypeId × Value → H) :
    (OpenSpec.ofChange Rows.numeralPartsSpec).preRow enc Tryd.prog Tryd.f7 Rows.numeralPartsRow.domain false Rows.numeralPartsRow.laid ((laidWorld os).forCall (fun _ _ => 0) ⟨#[], #[.agg #[.int .i64 0, .slice none 0 0, .slice none 0 0, .bool false, .string ⟨#[]⟩, .int .i64 0, .string ⟨#[]⟩, .bool false], .int .u16 0], []⟩).memory #[.agg #[.int .i64 0, .slice none 0 0, .slice none 0 0, .bool false, .string ⟨#[]⟩, .int .i64 0, .string ⟨#[]⟩, .bool false], .int .u16 0] := by
  have hw : (DataW.whole enc Tryd.prog ((laidWorld os).forCall (fun _ _ => 0) ⟨#[], #[.agg #[.int .i64 0, .slice none 0 0, .slice none 0 0, .bool false, .string ⟨#[]⟩, .int .i64 0, .string ⟨#[]⟩, .bool false], .int .u16 0], []⟩).memory Tryd.f7.params.toList Rows.numeralPartsSpec.vars false (#[.agg #[.int .i64 0, .slice none 0 0, .slice none 0 0, .bool false, .string ⟨#[]⟩, .int .i64 0, .string ⟨#[]⟩, .bool false], .int .u16 0] : Array Value).toList 8).map (fun x => (x.1, x.2.1)) =
      some ([.agg [.lit (.int .i64 0), .nil, .nil, .lit (.bool false), .lit (.string []), .lit (.int .i64 0), .lit (.string []), .lit (.bool false)], .lit (.int .u16 0)], []) := by kernel_rfl
  obtain ⟨⟨x1, x2, x3⟩, hx, hx1⟩ := Option.map_eq_some_iff.1 hw
  simp only [Prod.mk.injEq] at hx1
  obtain ⟨rfl, rfl⟩ := hx1
  exact OpenSpec.preRow_of_cond 8 hx (by kernel_rfl) (fun k hk => by cases hk) (by kernel_rfl) (laid_met os _)

set_option maxRecDepth 100000 in
theorem lifted (os : Os) (started : os.Started) (H : Type) (enc : TypeId × Value → H) (F : Stop.Interp) :
    ReturnsInHanded {} Tryd.checked os 7 .any ((OpenSpec.ofChange Rows.numeralPartsSpec).preRow enc Tryd.prog Tryd.f7 Rows.numeralPartsRow.domain false Rows.numeralPartsRow.laid) (((OpenSpec.ofChange Rows.numeralPartsSpec).at F).post enc Tryd.prog Tryd.f7 false true false false) := by
  refine returnsInHanded_of_row (C := Tryd.checked) (s := (OpenSpec.ofChange Rows.numeralPartsSpec)) own started (by kernel_rfl) Tryd.func7
    (witness_row_atRef (enc := enc) (C := Tryd.checked) false (laidWorld os) #[.agg #[.int .i64 0, .slice none 0 0, .slice none 0 0, .bool false, .string ⟨#[]⟩, .int .i64 0, .string ⟨#[]⟩, .bool false], .int .u16 0] rfl (by kernel_rfl) (by kernel_rfl) (by kernel_rfl) (witness_row os enc)) ?_
  intro W base args ds gs before hval hW _ _ hsz hL _ _
  exact contract H enc W base args ds gs before hval hW hsz hL

theorem row : Rows.NumeralPartsSaid :=
  OpenClaim.holds_of_cond 7 Tryd.f7 rfl rfl rfl rfl rfl rfl rfl ⟨rfl, rfl, rfl, rfl, rfl⟩ rfl rfl rfl rfl rfl (by kernel_rfl) Tryd.func7 (by kernel_rfl)
    (of_decide_eq_true (by kernel_rfl)) (by unfold Func.isWrapper; rw [if_neg (of_decide_eq_false (by kernel_rfl))]; exact ⟨rfl, rfl⟩)
    (fun os started H enc _ F0 => by rw [OpenClaim.pre_eq_preRow]; exact lifted os started H enc F0)

/-- No parameter wants a stand-in; the program's own looks are off. -/
theorem plain (f : FuncId) (fn : Func) (hf : Tryd.pinned.checked.prog.funcNamed "pentaglot/pentaglotlaw15.NumeralParts" = some f) (hfn : Tryd.pinned.checked.prog.funcs[f]? = some fn) :
    false = Tryd.pinned.checked.prog.looks [] ∧ ∀ (j : Nat) t, fn.params[j]? = some t → Tryd.pinned.checked.prog.wantsStandIn t = false := by
  obtain rfl : f = 7 := Option.some.inj ((show Tryd.prog.funcNamed "pentaglot/pentaglotlaw15.NumeralParts" = some 7 by kernel_rfl).symm.trans hf) |>.symm
  obtain rfl : fn = Tryd.f7 := (Option.some.inj (Tryd.func7.symm.trans hfn)).symm
  refine ⟨by kernel_rfl, fun j t ht => ?_⟩
  rw [Tryd.params7] at ht
  have hm : t = 24 ∨ t = 43 := by simpa using Array.mem_of_getElem? ht
  rcases hm with rfl | rfl
  · exact (show Tryd.prog.wantsStandIn 24 = false by kernel_rfl)
  · exact (show Tryd.prog.wantsStandIn 43 = false by kernel_rfl)

theorem proved : Rows.NumeralPartsCardSaid :=
  Claim7.holds_tied_plain_at .later [] _ _ _ _ row (fun _ h => by cases h) (by kernel_rfl) (fun _ h => by cases h) numeralParts_row_tie rfl ⟨rfl, rfl⟩ (by kernel_rfl) rfl plain (by kernel_rfl)
#print axioms proved
end Go.Proofs.YtdehghmpfkhljaaDoor.lawUEParts
