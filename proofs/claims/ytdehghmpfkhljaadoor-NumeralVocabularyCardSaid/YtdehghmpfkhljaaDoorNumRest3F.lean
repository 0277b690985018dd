/-
  The closure of speller at numbers with a remainder and no subtraction, where the quotient is 1 and omitted, the great part first. Conditions: the system is valid and lies where the closure looks.
-/
import Derived.Test.YtdehghmpfkhljaaDoorNumLow
namespace Go.Proofs.YtdehghmpfkhljaaDoor
open Go.RowKit
open NumPlain

set_option maxRecDepth 100000 in
set_option maxHeartbeats 3200000 in
theorem rest3F_any (x : Nm) (hx : Ok x) (k PK n : Nat) (hk : k ≤ 2) (hPK : bs x ^ (k + 1) = PK) (hge : ¬ n < bs x ^ (k + 1)) (hhi : n < bs x ^ (k + 2)) (hrz : n % PK ≠ 0) (hns : ¬ (0 < x.sub ∧ PK ≤ n % PK + x.sub.toNat ∧ n / PK + 1 < bs x)) (hlow : Low x k) (hcs : n / PK = 1 ∧ x.om = true) (hsf : x.sf = false) (Bs Bw : Nat) (w : World) (h : Spl w Bs Bw x) :
    Calls Tryd.prog 50 #[.int .i64 (n : Int), .pointer (some ⟨Bs, 0, none⟩), .pointer (some ⟨Bw, 0, none⟩)] w (SlPost w (W x (k + 1) n)) := by
  have hbs := hx.bs
  have hbase : x.base = (bs x : Int) := by unfold bs; rcases hx.base with h | h <;> rw [h] <;> rfl
  have hpn := hx.pn
  have hsub0 := hx.sub0
  have hsub1 := hx.sub1
  have hpc := h.wds.rp.le
  have hpm := h.wds.rp.cmax
  have c0 := h.box.c0
  have c2 := h.box.c2
  have c3 := h.box.c3
  have c4 := h.box.c4
  have c5 := h.box.c5
  have c6 := h.box.c6
  have c7 := h.box.c7
  have hfn := h.fn
  rw [hbase] at c0 hsub1
  obtain ⟨pb, poff, pw, hPA, hpw, _⟩ := h.wds.rp.at_ (show k < x.pn by omega)
  have hrp := h.wds.rp
  rw [hPA] at c2 hrp
  have hone := Rw.one hrp hpw
  have HO := Lib.hid hone
  have HPW := Lib.hid (show x.ps.getD k ByteArray.empty = pw by simp [List.getD, hpw])
  have hk1 : (k : Int) + 1 ≤ (x.pn : Int) := by omega
  have hk2 : ¬ x.pc = k := by omega
  have hk3 : (k : Int) ≤ (x.pc : Int) := by omega
  have hk4 : (k : Int) + 1 ≤ (x.pc : Int) := by omega
  have hP1 := pow_bounds hbs (show k + 1 ≤ 3 by omega)
  have hPb : bs x ≤ PK := by have := pow_le hbs (show 1 ≤ k + 1 by omega); rw [Nat.pow_one, hPK] at this; exact this
  have hPs : bs x ^ (k + 2) = bs x * PK := by rw [← hPK, Nat.pow_succ (n := bs x) (m := k + 1), Nat.mul_comm]
  rw [hPK] at hP1
  have hcf := enterW
  have HSp := Lib.hid h
  have hlo : PK ≤ n := by rw [← hPK]; omega
  have hQR := Nat.div_add_mod n PK
  have hRlt := Nat.mod_lt n (show 0 < PK by omega)
  have hQ1 : 1 ≤ n / PK := (Nat.le_div_iff_mul_le (by omega)).2 (by omega)
  have hQB : n / PK < bs x := by rw [Nat.div_lt_iff_lt_mul (by omega)]; rw [hPs] at hhi; exact hhi
  have HG := Lib.hid (fun w0 => gp_any (bs x) k n PK w0 hPK hbs hk (by rw [hPK]; exact hlo) hhi)
  have hw0 := W_high hge
  rw [hPK] at hw0
  have hq1 : (n : Int) / (PK : Int) = ((n / PK : Nat) : Int) := by simp
  have hr1 : (n : Int) % (PK : Int) = ((n % PK : Nat) : Int) := by simp
  have hq2 : (n : Int).tdiv (PK : Int) = ((n / PK : Nat) : Int) := by rw [Int.tdiv_eq_ediv_of_nonneg (by omega)]; exact hq1
  have hr2 : (n : Int).tmod (PK : Int) = ((n % PK : Nat) : Int) := by rw [Int.tmod_eq_emod_of_nonneg (by omega)]; exact hr1
  have hpz : ¬ (PK : Int) = 0 := by omega
  have hnb : ¬ (n : Int) < (bs x : Int) := by omega
  rw [if_neg hns, if_neg hrz] at hw0
  have HC : ¬ (0 < x.sub) ∨ (0 < x.sub ∧ ¬ ((PK : Int) - x.sub ≤ ((n % PK : Nat) : Int))) ∨ (0 < x.sub ∧ ((PK : Int) - x.sub ≤ ((n % PK : Nat) : Int)) ∧ ¬ (((n / PK : Nat) : Int) + 1 < (bs x : Int))) := by
    by_cases h1 : 0 < x.sub
    · by_cases h2 : (PK : Int) - x.sub ≤ ((n % PK : Nat) : Int)
      · by_cases h3 : ((n / PK : Nat) : Int) + 1 < (bs x : Int)
        · exact absurd ⟨h1, by omega, by omega⟩ hns
        · exact .inr (.inr ⟨h1, h2, h3⟩)
      · exact .inr (.inl ⟨h1, h2⟩)
    · exact .inl h1
  have HR := Lib.hid (fun w0 (a : Aft w w0) => hlow (n % PK) (by rw [hPK]; exact hRlt) Bs Bw w0 (h.aft a))
  have HM := Lib.hid (fun w0 (a : Aft w w0) => dig_any x hx (n / PK) hQB Bs Bw w0 (h.aft a))
  have hdl := dig_len x (n / PK)
  have hwl := W_len x k (n % PK)
  have hwm : IntKind.i64.wrap ((n / PK : Nat) : Int) = ((n / PK : Nat) : Int) := wrap_small _ (by omega) (by omega)
  have HHD := Lib.hid (show headW x (n / PK) k = if 1 < n / PK ∨ x.om = false then col [dig x (n / PK), [pw]] else [pw] by unfold headW; rw [HPW.out])
  have hrz' : ¬ ((n % PK : Nat) : Int) = 0 := by omega
  have hB10 : 10 ≤ bs x := by omega
  clear hx h hPK hPs hbase hrp hpw hPA hone hbs hns hge hhi hlow hQR
  generalize n % PK = R at *
  generalize n / PK = m at *
  generalize bs x = B at *
  generalize headW x m k = HW at *
  generalize W x (k + 1) n = RES at *
  rw [hsf] at c3 hw0
  have HV := Lib.hid hw0
  clear hw0
  obtain ⟨rfl, hom⟩ := hcs
  have HH := Lib.hid (show HW = [pw] by rw [HHD.out, if_neg (by rw [hom]; simp)])
  rw [hom] at c7
  have hhl : ([pw]).length ≤ 2 := by simp
  clear HHD
  have HC2 : ¬ (0 < x.sub) ∨ (0 < x.sub ∧ ¬ ((PK : Int) - x.sub ≤ (R : Int))) := by
    rcases HC with h | h | ⟨_, _, h⟩
    · exact .inl h
    · exact .inr h
    · exact absurd (by omega) h
  clear HC
  rcases HC2 with hS | ⟨hS, hS2⟩
  · go_enter Tryd.func50, Tryd.ntmps50
    go_wp2_with fail
    refine (HG.out _).mono ?_
    rintro e w1 ⟨rfl, rfl⟩
    go_wp2
    go_quiet (fail)
    go_wp2
    have AWB := Aft.refl w
    refine wp_region_held_drew (S := fun w' => Aft w w' ∧ w'.cell? ⟨Bw, 0, none⟩ = some (.func (.func 50) #[] #[.pointer (some ⟨Bs, 0, none⟩), .pointer (some ⟨Bw, 0, none⟩)]) ∧ w'.cell? ⟨Bs, 4, none⟩ = some (.string x.jo)) (by kernel_rfl) (⟨Below.drew (Aft.drewN (Aft.refl w) _), Aft.cell (Below.drew (Aft.drewN (Aft.refl w) _)) hfn, Aft.cell (Below.drew (Aft.drewN (Aft.refl w) _)) c4⟩) (fun hHeld => ?_)
    refine take_on (i := 0) (v := ?v5085) rfl (by kernel_rfl) (by kernel_rfl) (by kernel_rfl) (fun _ _ _ h => h) (by rfl) (by assumption) ?y5085 ?_
    case y5085 => (intro w hSw; (try dsimp only at hSw); go_simp; (try with_reducible rfl))
    try simp only [Act.put, List.setIfInBounds_toArray, List.set_cons_zero, List.set_cons_succ]
    refine take_on (i := 1) (v := ?v5086) rfl (by kernel_rfl) (by kernel_rfl) (by kernel_rfl) (fun _ _ _ h => h) (by rfl) (by assumption) ?y5086 ?_
    case y5086 => (intro w hSw; (try dsimp only at hSw); go_simp; (try with_reducible rfl))
    try simp only [Act.put, List.setIfInBounds_toArray, List.set_cons_zero, List.set_cons_succ]
    refine take_on (i := 2) (v := ?v5087) rfl (by kernel_rfl) (by kernel_rfl) (by kernel_rfl) (fun _ _ _ h => h) (by rfl) (by assumption) ?y5087 ?_
    case y5087 => (intro w hSw; (try dsimp only at hSw); go_simp; (try with_reducible rfl))
    try simp only [Act.put, List.setIfInBounds_toArray, List.set_cons_zero, List.set_cons_succ]
    refine take_on (i := 4) (v := ?v5088) rfl (by kernel_rfl) (by kernel_rfl) (by kernel_rfl) (fun _ _ _ h => h) (by rfl) (by assumption) ?y5088 ?_
    case y5088 => (intro w hSw; (try dsimp only at hSw); go_simp; (try with_reducible rfl))
    try simp only [Act.put, List.setIfInBounds_toArray, List.set_cons_zero, List.set_cons_succ]
    refine take_on (i := 5) (v := ?v5089) rfl (by kernel_rfl) (by kernel_rfl) (by kernel_rfl) (fun _ _ _ h => h) (by rfl) (by assumption) ?y5089 ?_
    case y5089 => (intro w hSw; (try dsimp only at hSw); go_simp; (try with_reducible rfl))
    try simp only [Act.put, List.setIfInBounds_toArray, List.set_cons_zero, List.set_cons_succ]
    refine two_readyN (i := 3) (j := 6) rfl rfl (by kernel_rfl) (by rfl) (by rfl) (fun K hK => ?_) (fun K hK => ?_)
    · go_simp
      refine hK.out _ _ (⟨Aft.alloc hHeld.1 _, Aft.cell ((Aft.refl _).alloc _) hHeld.2.1, Aft.cell ((Aft.refl _).alloc _) hHeld.2.2⟩) (fun hHeld => ?_)
      clear hK K
      try simp only [Act.put, List.setIfInBounds_toArray, List.set_cons_zero, List.set_cons_succ]
      refine one_ready (i := 6) rfl (by kernel_rfl) (by rfl) (fun K hK => ?_)
      have hPre := hHeld
      go_simp
      go_at_call 50
      refine (HR.out _ (AWB.trans hPre.1)).mono ?_
      rintro e' w8 ⟨⟨Xr, nr, cr, rfl, rr⟩, Nr⟩
      have Rr := Lib.hid rr
      clear rr
      try go_simp
      refine hK.out _ _ (⟨Aft.trans hPre.1 Nr, Aft.cell Nr hPre.2.1, Aft.cell Nr hPre.2.2⟩) (fun hHeld => ?_)
      clear hK K
      try simp only [Act.put, List.setIfInBounds_toArray, List.set_cons_zero, List.set_cons_succ]
      have hB := hHeld.1
      refine one_ready (i := 7) rfl (by kernel_rfl) (by rfl) (fun K hK => ?_)
      go_simp
      refine hK.out _ _ (⟨Aft.alloc hHeld.1 _, Aft.cell ((Aft.refl _).alloc _) hHeld.2.1, Aft.cell ((Aft.refl _).alloc _) hHeld.2.2⟩) (fun hHeld => ?_)
      clear hK K
      try simp only [Act.put, List.setIfInBounds_toArray, List.set_cons_zero, List.set_cons_succ]
      refine one_ready (i := 8) rfl (by kernel_rfl) (by rfl) (fun K hK => ?_)
      have hPre := hHeld
      go_simp
      go_at_call 42
      refine (collect_any _ 3 3 [⟨some ⟨pb, poff + k, none⟩, 1, x.pc - k, [pw]⟩, ⟨some ⟨_, 0, none⟩, 1, 1, [x.jo]⟩, ⟨Xr, nr, cr, W x k R⟩] _ (three_at (by first | rfl | simp) (HO.out.aft hB) (row1 (by first | exact Aft.cell Nr (cell1 _ _ _) | exact Aft.cell (Aft.trans (Below.drew (Aft.refl _)) Nr) (cell1 _ _ _))) Rr.out 22) (by simp [lists]; omega)).mono ?_
      rintro e' w9 ⟨⟨Xz, nz, cz, rfl, rz⟩, Nz⟩
      have Rz := Lib.hid rz
      clear rz
      try go_simp
      refine hK.out _ _ (⟨Aft.trans hPre.1 Nz, Aft.cell Nz hPre.2.1, Aft.cell Nz hPre.2.2⟩) (fun hHeld => ?_)
      clear hK K
      try simp only [Act.put, List.setIfInBounds_toArray, List.set_cons_zero, List.set_cons_succ]
      refine take_on (i := 9) (v := ?v5090) rfl (by kernel_rfl) (by kernel_rfl) (by kernel_rfl) (fun _ _ _ h => h) (by rfl) (by assumption) ?y5090 ?_
      case y5090 => (intro w hSw; (try dsimp only at hSw); go_simp; (try with_reducible rfl))
      try simp only [Act.put, List.setIfInBounds_toArray, List.set_cons_zero, List.set_cons_succ]
      refine wpAnyH_done (by kernel_rfl) ?_ _
      go_wp2
      go_ret
      exact ⟨⟨Xz, nz, cz, rfl, by rw [HV.out, HH.out]; exact Rz.out⟩, AWB.trans hHeld.1⟩
    · have hPre := hHeld
      go_simp
      go_at_call 50
      refine (HR.out _ (AWB.trans hPre.1)).mono ?_
      rintro e' w8 ⟨⟨Xr, nr, cr, rfl, rr⟩, Nr⟩
      have Rr := Lib.hid rr
      clear rr
      try go_simp
      refine hK.out _ _ (⟨Aft.trans hPre.1 Nr, Aft.cell Nr hPre.2.1, Aft.cell Nr hPre.2.2⟩) (fun hHeld => ?_)
      clear hK K
      try simp only [Act.put, List.setIfInBounds_toArray, List.set_cons_zero, List.set_cons_succ]
      refine one_ready (i := 3) rfl (by kernel_rfl) (by rfl) (fun K hK => ?_)
      go_simp
      refine hK.out _ _ (⟨Aft.alloc hHeld.1 _, Aft.cell ((Aft.refl _).alloc _) hHeld.2.1, Aft.cell ((Aft.refl _).alloc _) hHeld.2.2⟩) (fun hHeld => ?_)
      clear hK K
      try simp only [Act.put, List.setIfInBounds_toArray, List.set_cons_zero, List.set_cons_succ]
      have hB := hHeld.1
      refine one_ready (i := 7) rfl (by kernel_rfl) (by rfl) (fun K hK => ?_)
      go_simp
      refine hK.out _ _ (⟨Aft.alloc hHeld.1 _, Aft.cell ((Aft.refl _).alloc _) hHeld.2.1, Aft.cell ((Aft.refl _).alloc _) hHeld.2.2⟩) (fun hHeld => ?_)
      clear hK K
      try simp only [Act.put, List.setIfInBounds_toArray, List.set_cons_zero, List.set_cons_succ]
      refine one_ready (i := 8) rfl (by kernel_rfl) (by rfl) (fun K hK => ?_)
      have hPre := hHeld
      go_simp
      go_at_call 42
      refine (collect_any _ 3 3 [⟨some ⟨pb, poff + k, none⟩, 1, x.pc - k, [pw]⟩, ⟨some ⟨_, 0, none⟩, 1, 1, [x.jo]⟩, ⟨Xr, nr, cr, W x k R⟩] _ (three_at (by first | rfl | simp) (HO.out.aft hB) (row1 (by exact cell1 _ _ _)) (Rr.out.aft ((Aft.refl _).alloc _)) 22) (by simp [lists]; omega)).mono ?_
      rintro e' w9 ⟨⟨Xz, nz, cz, rfl, rz⟩, Nz⟩
      have Rz := Lib.hid rz
      clear rz
      try go_simp
      refine hK.out _ _ (⟨Aft.trans hPre.1 Nz, Aft.cell Nz hPre.2.1, Aft.cell Nz hPre.2.2⟩) (fun hHeld => ?_)
      clear hK K
      try simp only [Act.put, List.setIfInBounds_toArray, List.set_cons_zero, List.set_cons_succ]
      refine take_on (i := 9) (v := ?v5091) rfl (by kernel_rfl) (by kernel_rfl) (by kernel_rfl) (fun _ _ _ h => h) (by rfl) (by assumption) ?y5091 ?_
      case y5091 => (intro w hSw; (try dsimp only at hSw); go_simp; (try with_reducible rfl))
      try simp only [Act.put, List.setIfInBounds_toArray, List.set_cons_zero, List.set_cons_succ]
      refine wpAnyH_done (by kernel_rfl) ?_ _
      go_wp2
      go_ret
      exact ⟨⟨Xz, nz, cz, rfl, by rw [HV.out, HH.out]; exact Rz.out⟩, AWB.trans hHeld.1⟩
  · go_enter Tryd.func50, Tryd.ntmps50
    go_wp2_with fail
    refine (HG.out _).mono ?_
    rintro e w1 ⟨rfl, rfl⟩
    go_wp2
    go_quiet (fail)
    go_wp2
    have AWB := Aft.refl w
    refine wp_region_held_drew (S := fun w' => Aft w w' ∧ w'.cell? ⟨Bw, 0, none⟩ = some (.func (.func 50) #[] #[.pointer (some ⟨Bs, 0, none⟩), .pointer (some ⟨Bw, 0, none⟩)]) ∧ w'.cell? ⟨Bs, 4, none⟩ = some (.string x.jo)) (by kernel_rfl) (⟨Below.drew (Aft.drewN (Aft.refl w) _), Aft.cell (Below.drew (Aft.drewN (Aft.refl w) _)) hfn, Aft.cell (Below.drew (Aft.drewN (Aft.refl w) _)) c4⟩) (fun hHeld => ?_)
    refine take_on (i := 0) (v := ?v5092) rfl (by kernel_rfl) (by kernel_rfl) (by kernel_rfl) (fun _ _ _ h => h) (by rfl) (by assumption) ?y5092 ?_
    case y5092 => (intro w hSw; (try dsimp only at hSw); go_simp; (try with_reducible rfl))
    try simp only [Act.put, List.setIfInBounds_toArray, List.set_cons_zero, List.set_cons_succ]
    refine take_on (i := 1) (v := ?v5093) rfl (by kernel_rfl) (by kernel_rfl) (by kernel_rfl) (fun _ _ _ h => h) (by rfl) (by assumption) ?y5093 ?_
    case y5093 => (intro w hSw; (try dsimp only at hSw); go_simp; (try with_reducible rfl))
    try simp only [Act.put, List.setIfInBounds_toArray, List.set_cons_zero, List.set_cons_succ]
    refine take_on (i := 2) (v := ?v5094) rfl (by kernel_rfl) (by kernel_rfl) (by kernel_rfl) (fun _ _ _ h => h) (by rfl) (by assumption) ?y5094 ?_
    case y5094 => (intro w hSw; (try dsimp only at hSw); go_simp; (try with_reducible rfl))
    try simp only [Act.put, List.setIfInBounds_toArray, List.set_cons_zero, List.set_cons_succ]
    refine take_on (i := 4) (v := ?v5095) rfl (by kernel_rfl) (by kernel_rfl) (by kernel_rfl) (fun _ _ _ h => h) (by rfl) (by assumption) ?y5095 ?_
    case y5095 => (intro w hSw; (try dsimp only at hSw); go_simp; (try with_reducible rfl))
    try simp only [Act.put, List.setIfInBounds_toArray, List.set_cons_zero, List.set_cons_succ]
    refine take_on (i := 5) (v := ?v5096) rfl (by kernel_rfl) (by kernel_rfl) (by kernel_rfl) (fun _ _ _ h => h) (by rfl) (by assumption) ?y5096 ?_
    case y5096 => (intro w hSw; (try dsimp only at hSw); go_simp; (try with_reducible rfl))
    try simp only [Act.put, List.setIfInBounds_toArray, List.set_cons_zero, List.set_cons_succ]
    refine two_readyN (i := 3) (j := 6) rfl rfl (by kernel_rfl) (by rfl) (by rfl) (fun K hK => ?_) (fun K hK => ?_)
    · go_simp
      refine hK.out _ _ (⟨Aft.alloc hHeld.1 _, Aft.cell ((Aft.refl _).alloc _) hHeld.2.1, Aft.cell ((Aft.refl _).alloc _) hHeld.2.2⟩) (fun hHeld => ?_)
      clear hK K
      try simp only [Act.put, List.setIfInBounds_toArray, List.set_cons_zero, List.set_cons_succ]
      refine one_ready (i := 6) rfl (by kernel_rfl) (by rfl) (fun K hK => ?_)
      have hPre := hHeld
      go_simp
      go_at_call 50
      refine (HR.out _ (AWB.trans hPre.1)).mono ?_
      rintro e' w8 ⟨⟨Xr, nr, cr, rfl, rr⟩, Nr⟩
      have Rr := Lib.hid rr
      clear rr
      try go_simp
      refine hK.out _ _ (⟨Aft.trans hPre.1 Nr, Aft.cell Nr hPre.2.1, Aft.cell Nr hPre.2.2⟩) (fun hHeld => ?_)
      clear hK K
      try simp only [Act.put, List.setIfInBounds_toArray, List.set_cons_zero, List.set_cons_succ]
      have hB := hHeld.1
      refine one_ready (i := 7) rfl (by kernel_rfl) (by rfl) (fun K hK => ?_)
      go_simp
      refine hK.out _ _ (⟨Aft.alloc hHeld.1 _, Aft.cell ((Aft.refl _).alloc _) hHeld.2.1, Aft.cell ((Aft.refl _).alloc _) hHeld.2.2⟩) (fun hHeld => ?_)
      clear hK K
      try simp only [Act.put, List.setIfInBounds_toArray, List.set_cons_zero, List.set_cons_succ]
      refine one_ready (i := 8) rfl (by kernel_rfl) (by rfl) (fun K hK => ?_)
      have hPre := hHeld
      go_simp
      go_at_call 42
      refine (collect_any _ 3 3 [⟨some ⟨pb, poff + k, none⟩, 1, x.pc - k, [pw]⟩, ⟨some ⟨_, 0, none⟩, 1, 1, [x.jo]⟩, ⟨Xr, nr, cr, W x k R⟩] _ (three_at (by first | rfl | simp) (HO.out.aft hB) (row1 (by first | exact Aft.cell Nr (cell1 _ _ _) | exact Aft.cell (Aft.trans (Below.drew (Aft.refl _)) Nr) (cell1 _ _ _))) Rr.out 22) (by simp [lists]; omega)).mono ?_
      rintro e' w9 ⟨⟨Xz, nz, cz, rfl, rz⟩, Nz⟩
      have Rz := Lib.hid rz
      clear rz
      try go_simp
      refine hK.out _ _ (⟨Aft.trans hPre.1 Nz, Aft.cell Nz hPre.2.1, Aft.cell Nz hPre.2.2⟩) (fun hHeld => ?_)
      clear hK K
      try simp only [Act.put, List.setIfInBounds_toArray, List.set_cons_zero, List.set_cons_succ]
      refine take_on (i := 9) (v := ?v5097) rfl (by kernel_rfl) (by kernel_rfl) (by kernel_rfl) (fun _ _ _ h => h) (by rfl) (by assumption) ?y5097 ?_
      case y5097 => (intro w hSw; (try dsimp only at hSw); go_simp; (try with_reducible rfl))
      try simp only [Act.put, List.setIfInBounds_toArray, List.set_cons_zero, List.set_cons_succ]
      refine wpAnyH_done (by kernel_rfl) ?_ _
      go_wp2
      go_ret
      exact ⟨⟨Xz, nz, cz, rfl, by rw [HV.out, HH.out]; exact Rz.out⟩, AWB.trans hHeld.1⟩
    · have hPre := hHeld
      go_simp
      go_at_call 50
      refine (HR.out _ (AWB.trans hPre.1)).mono ?_
      rintro e' w8 ⟨⟨Xr, nr, cr, rfl, rr⟩, Nr⟩
      have Rr := Lib.hid rr
      clear rr
      try go_simp
      refine hK.out _ _ (⟨Aft.trans hPre.1 Nr, Aft.cell Nr hPre.2.1, Aft.cell Nr hPre.2.2⟩) (fun hHeld => ?_)
      clear hK K
      try simp only [Act.put, List.setIfInBounds_toArray, List.set_cons_zero, List.set_cons_succ]
      refine one_ready (i := 3) rfl (by kernel_rfl) (by rfl) (fun K hK => ?_)
      go_simp
      refine hK.out _ _ (⟨Aft.alloc hHeld.1 _, Aft.cell ((Aft.refl _).alloc _) hHeld.2.1, Aft.cell ((Aft.refl _).alloc _) hHeld.2.2⟩) (fun hHeld => ?_)
      clear hK K
      try simp only [Act.put, List.setIfInBounds_toArray, List.set_cons_zero, List.set_cons_succ]
      have hB := hHeld.1
      refine one_ready (i := 7) rfl (by kernel_rfl) (by rfl) (fun K hK => ?_)
      go_simp
      refine hK.out _ _ (⟨Aft.alloc hHeld.1 _, Aft.cell ((Aft.refl _).alloc _) hHeld.2.1, Aft.cell ((Aft.refl _).alloc _) hHeld.2.2⟩) (fun hHeld => ?_)
      clear hK K
      try simp only [Act.put, List.setIfInBounds_toArray, List.set_cons_zero, List.set_cons_succ]
      refine one_ready (i := 8) rfl (by kernel_rfl) (by rfl) (fun K hK => ?_)
      have hPre := hHeld
      go_simp
      go_at_call 42
      refine (collect_any _ 3 3 [⟨some ⟨pb, poff + k, none⟩, 1, x.pc - k, [pw]⟩, ⟨some ⟨_, 0, none⟩, 1, 1, [x.jo]⟩, ⟨Xr, nr, cr, W x k R⟩] _ (three_at (by first | rfl | simp) (HO.out.aft hB) (row1 (by exact cell1 _ _ _)) (Rr.out.aft ((Aft.refl _).alloc _)) 22) (by simp [lists]; omega)).mono ?_
      rintro e' w9 ⟨⟨Xz, nz, cz, rfl, rz⟩, Nz⟩
      have Rz := Lib.hid rz
      clear rz
      try go_simp
      refine hK.out _ _ (⟨Aft.trans hPre.1 Nz, Aft.cell Nz hPre.2.1, Aft.cell Nz hPre.2.2⟩) (fun hHeld => ?_)
      clear hK K
      try simp only [Act.put, List.setIfInBounds_toArray, List.set_cons_zero, List.set_cons_succ]
      refine take_on (i := 9) (v := ?v5098) rfl (by kernel_rfl) (by kernel_rfl) (by kernel_rfl) (fun _ _ _ h => h) (by rfl) (by assumption) ?y5098 ?_
      case y5098 => (intro w hSw; (try dsimp only at hSw); go_simp; (try with_reducible rfl))
      try simp only [Act.put, List.setIfInBounds_toArray, List.set_cons_zero, List.set_cons_succ]
      refine wpAnyH_done (by kernel_rfl) ?_ _
      go_wp2
      go_ret
      exact ⟨⟨Xz, nz, cz, rfl, by rw [HV.out, HH.out]; exact Rz.out⟩, AWB.trans hHeld.1⟩
end Go.Proofs.YtdehghmpfkhljaaDoor
