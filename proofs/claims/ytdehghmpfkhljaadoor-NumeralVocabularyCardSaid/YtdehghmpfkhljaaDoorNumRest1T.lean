/-
  The closure of speller at numbers with a remainder and no subtraction, where the quotient is above 1, the small part first. Conditions: the system is valid and lies where the closure looks.
-/
import Derived.Test.YtdehghmpfkhljaaDoorNumLow
namespace Go.Proofs.YtdehghmpfkhljaaDoor
open Go.RowKit
open NumPlain

set_option maxRecDepth 100000 in
set_option maxHeartbeats 3200000 in
theorem rest1T_any (x : Nm) (hx : Ok x) (k PK n : Nat) (hk : k ≤ 2) (hPK : bs x ^ (k + 1) = PK) (hge : ¬ n < bs x ^ (k + 1)) (hhi : n < bs x ^ (k + 2)) (hrz : n % PK ≠ 0) (hns : ¬ (0 < x.sub ∧ PK ≤ n % PK + x.sub.toNat ∧ n / PK + 1 < bs x)) (hlow : Low x k) (hcs : 1 < n / PK) (hsf : x.sf = true) (Bs Bw : Nat) (w : World) (h : Spl w Bs Bw x) :
    Calls Tryd.prog 50 #[.int .i64 (n : Int), .pointer (some ⟨Bs, 0, none⟩), .pointer (some ⟨Bw, 0, none⟩)] w (SlPost w (W x (k + 1) n)) := by
  have hbs := hx.bs
  have hbase : x.base = (bs x : Int) := by unfold bs; rcases hx.base with h | h <;> rw [h] <;> rfl
  have hpn := hx.pn
  have hsub0 := hx.sub0
  have hsub1 := hx.sub1
  have hpc := h.wds.rp.le
  have hpm := h.wds.rp.cmax
  have c0 := h.box.c0
  have c2 := h.box.c2
  have c3 := h.box.c3
  have c4 := h.box.c4
  have c5 := h.box.c5
  have c6 := h.box.c6
  have c7 := h.box.c7
  have hfn := h.fn
  rw [hbase] at c0 hsub1
  obtain ⟨pb, poff, pw, hPA, hpw, _⟩ := h.wds.rp.at_ (show k < x.pn by omega)
  have hrp := h.wds.rp
  rw [hPA] at c2 hrp
  have hone := Rw.one hrp hpw
  have HO := Lib.hid hone
  have HPW := Lib.hid (show x.ps.getD k ByteArray.empty = pw by simp [List.getD, hpw])
  have hk1 : (k : Int) + 1 ≤ (x.pn : Int) := by omega
  have hk2 : ¬ x.pc = k := by omega
  have hk3 : (k : Int) ≤ (x.pc : Int) := by omega
  have hk4 : (k : Int) + 1 ≤ (x.pc : Int) := by omega
  have hP1 := pow_bounds hbs (show k + 1 ≤ 3 by omega)
  have hPb : bs x ≤ PK := by have := pow_le hbs (show 1 ≤ k + 1 by omega); rw [Nat.pow_one, hPK] at this; exact this
  have hPs : bs x ^ (k + 2) = bs x * PK := by rw [← hPK, Nat.pow_succ (n := bs x) (m := k + 1), Nat.mul_comm]
  rw [hPK] at hP1
  have hcf := enterW
  have HSp := Lib.hid h
  have hlo : PK ≤ n := by rw [← hPK]; omega
  have hQR := Nat.div_add_mod n PK
  have hRlt := Nat.mod_lt n (show 0 < PK by omega)
  have hQ1 : 1 ≤ n / PK := (Nat.le_div_iff_mul_le (by omega)).2 (by omega)
  have hQB : n / PK < bs x := by rw [Nat.div_lt_iff_lt_mul (by omega)]; rw [hPs] at hhi; exact hhi
  have HG := Lib.hid (fun w0 => gp_any (bs x) k n PK w0 hPK hbs hk (by rw [hPK]; exact hlo) hhi)
  have hw0 := W_high hge
  rw [hPK] at hw0
  have hq1 : (n : Int) / (PK : Int) = ((n / PK : Nat) : Int) := by simp
  have hr1 : (n : Int) % (PK : Int) = ((n % PK : Nat) : Int) := by simp
  have hq2 : (n : Int).tdiv (PK : Int) = ((n / PK : Nat) : Int) := by rw [Int.tdiv_eq_ediv_of_nonneg (by omega)]; exact hq1
  have hr2 : (n : Int).tmod (PK : Int) = ((n % PK : Nat) : Int) := by rw [Int.tmod_eq_emod_of_nonneg (by omega)]; exact hr1
  have hpz : ¬ (PK : Int) = 0 := by omega
  have hnb : ¬ (n : Int) < (bs x : Int) := by omega
  rw [if_neg hns, if_neg hrz] at hw0
  have HC : ¬ (0 < x.sub) ∨ (0 < x.sub ∧ ¬ ((PK : Int) - x.sub ≤ ((n % PK : Nat) : Int))) ∨ (0 < x.sub ∧ ((PK : Int) - x.sub ≤ ((n % PK : Nat) : Int)) ∧ ¬ (((n / PK : Nat) : Int) + 1 < (bs x : Int))) := by
    by_cases h1 : 0 < x.sub
    · by_cases h2 : (PK : Int) - x.sub ≤ ((n % PK : Nat) : Int)
      · by_cases h3 : ((n / PK : Nat) : Int) + 1 < (bs x : Int)
        · exact absurd ⟨h1, by omega, by omega⟩ hns
        · exact .inr (.inr ⟨h1, h2, h3⟩)
      · exact .inr (.inl ⟨h1, h2⟩)
    · exact .inl h1
  have HR := Lib.hid (fun w0 (a : Aft w w0) => hlow (n % PK) (by rw [hPK]; exact hRlt) Bs Bw w0 (h.aft a))
  have HM := Lib.hid (fun w0 (a : Aft w w0) => dig_any x hx (n / PK) hQB Bs Bw w0 (h.aft a))
  have hdl := dig_len x (n / PK)
  have hwl := W_len x k (n % PK)
  have hwm : IntKind.i64.wrap ((n / PK : Nat) : Int) = ((n / PK : Nat) : Int) := wrap_small _ (by omega) (by omega)
  have HHD := Lib.hid (show headW x (n / PK) k = if 1 < n / PK ∨ x.om = false then col [dig x (n / PK), [pw]] else [pw] by unfold headW; rw [HPW.out])
  have hrz' : ¬ ((n % PK : Nat) : Int) = 0 := by omega
  have hB10 : 10 ≤ bs x := by omega
  clear hx h hPK hPs hbase hrp hpw hPA hone hbs hns hge hhi hlow hQR
  generalize n % PK = R at *
  generalize n / PK = m at *
  generalize bs x = B at *
  generalize headW x m k = HW at *
  generalize W x (k + 1) n = RES at *
  rw [hsf] at c3 hw0
  have HV := Lib.hid hw0
  clear hw0
  have hQ' : (1 : Int) < (m : Int) := by omega
  have HH := Lib.hid (show HW = col [dig x m, [pw]] by rw [HHD.out, if_pos (.inl hcs)])
  have hhl : (col [dig x m, [pw]]).length ≤ 2 := by have h := col_len [dig x m, [pw]]; simp only [List.flatten_cons, List.flatten_nil, List.append_nil, List.length_append, List.length_cons, List.length_nil] at h; omega
  clear HHD
  rcases HC with hS | ⟨hS, hS2⟩ | ⟨hS, hS2, hS3⟩
  · go_enter Tryd.func50, Tryd.ntmps50
    go_wp2_with fail
    refine (HG.out _).mono ?_
    rintro e w1 ⟨rfl, rfl⟩
    go_wp2
    go_quiet (fail)
    go_wp2_with fail
    refine (HM.out _ (Aft.drewN (Aft.refl _) _)).mono ?_
    rintro e w2 ⟨⟨Xd, nd, cd, rfl, rd⟩, Nd⟩
    have Rd := Lib.hid rd
    clear rd
    have Awd := Aft.trans (Aft.drewN (Aft.refl w) _) Nd
    go_wp2_with fail
    refine (collect_any _ 2 2 [⟨Xd, nd, cd, dig x m⟩, ⟨some ⟨pb, poff + k, none⟩, 1, x.pc - k, [pw]⟩] _ (two_lls Rd.out (HO.out.aft Awd) 22) (by simp [lists]; omega)).mono ?_
    rintro e w3 ⟨⟨Xh, nh, ch, rfl, rh⟩, Nh⟩
    have Rh := Lib.hid rh
    clear rh
    have AWB := Awd.trans (((Aft.refl w2).alloc _).trans Nh)
    have f3 := AWB.cell hfn
    have j3 := AWB.cell c4
    have s3 := AWB.cell c3
    clear Nd Nh Awd
    go_wp2
    clear c0 c2 c5 c6 c7 hk1 hk2 hk3 hk4 hq1 hq2 hr1 hr2 hpz hnb hwm hsub0 hsub1 HG HM HSp HPW
    refine wp_region_held_drew (S := fun w' => Aft w3 w' ∧ w'.cell? ⟨Bw, 0, none⟩ = some (.func (.func 50) #[] #[.pointer (some ⟨Bs, 0, none⟩), .pointer (some ⟨Bw, 0, none⟩)]) ∧ w'.cell? ⟨Bs, 4, none⟩ = some (.string x.jo)) (by kernel_rfl) (⟨Below.drew (Aft.refl _), f3, j3⟩) (fun hHeld => ?_)
    refine take_on (i := 0) (v := ?v5036) rfl (by kernel_rfl) (by kernel_rfl) (by kernel_rfl) (fun _ _ _ h => h) (by rfl) (by assumption) ?y5036 ?_
    case y5036 => (intro w hSw; (try dsimp only at hSw); go_simp; (try with_reducible rfl))
    try simp only [Act.put, List.setIfInBounds_toArray, List.set_cons_zero, List.set_cons_succ]
    refine take_on (i := 1) (v := ?v5037) rfl (by kernel_rfl) (by kernel_rfl) (by kernel_rfl) (fun _ _ _ h => h) (by rfl) (by assumption) ?y5037 ?_
    case y5037 => (intro w hSw; (try dsimp only at hSw); go_simp; (try with_reducible rfl))
    try simp only [Act.put, List.setIfInBounds_toArray, List.set_cons_zero, List.set_cons_succ]
    refine take_on (i := 3) (v := ?v5038) rfl (by kernel_rfl) (by kernel_rfl) (by kernel_rfl) (fun _ _ _ h => h) (by rfl) (by assumption) ?y5038 ?_
    case y5038 => (intro w hSw; (try dsimp only at hSw); go_simp; (try with_reducible rfl))
    try simp only [Act.put, List.setIfInBounds_toArray, List.set_cons_zero, List.set_cons_succ]
    refine take_on (i := 4) (v := ?v5039) rfl (by kernel_rfl) (by kernel_rfl) (by kernel_rfl) (fun _ _ _ h => h) (by rfl) (by assumption) ?y5039 ?_
    case y5039 => (intro w hSw; (try dsimp only at hSw); go_simp; (try with_reducible rfl))
    try simp only [Act.put, List.setIfInBounds_toArray, List.set_cons_zero, List.set_cons_succ]
    refine take_on (i := 6) (v := ?v5040) rfl (by kernel_rfl) (by kernel_rfl) (by kernel_rfl) (fun _ _ _ h => h) (by rfl) (by assumption) ?y5040 ?_
    case y5040 => (intro w hSw; (try dsimp only at hSw); go_simp; (try with_reducible rfl))
    try simp only [Act.put, List.setIfInBounds_toArray, List.set_cons_zero, List.set_cons_succ]
    refine two_readyN (i := 2) (j := 5) rfl rfl (by kernel_rfl) (by rfl) (by rfl) (fun K hK => ?_) (fun K hK => ?_)
    · have hPre := hHeld
      go_simp
      go_at_call 50
      refine (HR.out _ (AWB.trans hPre.1)).mono ?_
      rintro e' w8 ⟨⟨Xr, nr, cr, rfl, rr⟩, Nr⟩
      have Rr := Lib.hid rr
      clear rr
      try go_simp
      refine hK.out _ _ (⟨Aft.trans hPre.1 Nr, Aft.cell Nr hPre.2.1, Aft.cell Nr hPre.2.2⟩) (fun hHeld => ?_)
      clear hK K
      try simp only [Act.put, List.setIfInBounds_toArray, List.set_cons_zero, List.set_cons_succ]
      refine one_ready (i := 5) rfl (by kernel_rfl) (by rfl) (fun K hK => ?_)
      go_simp
      refine hK.out _ _ (⟨Aft.alloc hHeld.1 _, Aft.cell ((Aft.refl _).alloc _) hHeld.2.1, Aft.cell ((Aft.refl _).alloc _) hHeld.2.2⟩) (fun hHeld => ?_)
      clear hK K
      try simp only [Act.put, List.setIfInBounds_toArray, List.set_cons_zero, List.set_cons_succ]
      have hB := hHeld.1
      refine one_ready (i := 7) rfl (by kernel_rfl) (by rfl) (fun K hK => ?_)
      go_simp
      refine hK.out _ _ (⟨Aft.alloc hHeld.1 _, Aft.cell ((Aft.refl _).alloc _) hHeld.2.1, Aft.cell ((Aft.refl _).alloc _) hHeld.2.2⟩) (fun hHeld => ?_)
      clear hK K
      try simp only [Act.put, List.setIfInBounds_toArray, List.set_cons_zero, List.set_cons_succ]
      refine one_ready (i := 8) rfl (by kernel_rfl) (by rfl) (fun K hK => ?_)
      have hPre := hHeld
      go_simp
      go_at_call 42
      refine (collect_any _ 3 3 [⟨Xr, nr, cr, W x k R⟩, ⟨some ⟨_, 0, none⟩, 1, 1, [x.jo]⟩, ⟨Xh, nh, ch, col [dig x m, [pw]]⟩] _ (three_at (by first | rfl | simp) (Rr.out.aft ((Aft.refl _).alloc _)) (row1 (by exact cell1 _ _ _)) (Rh.out.aft hB) 22) (by simp [lists]; omega)).mono ?_
      rintro e' w9 ⟨⟨Xz, nz, cz, rfl, rz⟩, Nz⟩
      have Rz := Lib.hid rz
      clear rz
      try go_simp
      refine hK.out _ _ (⟨Aft.trans hPre.1 Nz, Aft.cell Nz hPre.2.1, Aft.cell Nz hPre.2.2⟩) (fun hHeld => ?_)
      clear hK K
      try simp only [Act.put, List.setIfInBounds_toArray, List.set_cons_zero, List.set_cons_succ]
      refine take_on (i := 9) (v := ?v5042) rfl (by kernel_rfl) (by kernel_rfl) (by kernel_rfl) (fun _ _ _ h => h) (by rfl) (by assumption) ?y5042 ?_
      case y5042 => (intro w hSw; (try dsimp only at hSw); go_simp; (try with_reducible rfl))
      try simp only [Act.put, List.setIfInBounds_toArray, List.set_cons_zero, List.set_cons_succ]
      refine wpAnyH_done (by kernel_rfl) ?_ _
      go_wp2
      go_ret
      exact ⟨⟨Xz, nz, cz, rfl, by rw [HV.out, HH.out]; exact Rz.out⟩, AWB.trans hHeld.1⟩
    · go_simp
      refine hK.out _ _ (⟨Aft.alloc hHeld.1 _, Aft.cell ((Aft.refl _).alloc _) hHeld.2.1, Aft.cell ((Aft.refl _).alloc _) hHeld.2.2⟩) (fun hHeld => ?_)
      clear hK K
      try simp only [Act.put, List.setIfInBounds_toArray, List.set_cons_zero, List.set_cons_succ]
      refine one_ready (i := 2) rfl (by kernel_rfl) (by rfl) (fun K hK => ?_)
      have hPre := hHeld
      go_simp
      go_at_call 50
      refine (HR.out _ (AWB.trans hPre.1)).mono ?_
      rintro e' w8 ⟨⟨Xr, nr, cr, rfl, rr⟩, Nr⟩
      have Rr := Lib.hid rr
      clear rr
      try go_simp
      refine hK.out _ _ (⟨Aft.trans hPre.1 Nr, Aft.cell Nr hPre.2.1, Aft.cell Nr hPre.2.2⟩) (fun hHeld => ?_)
      clear hK K
      try simp only [Act.put, List.setIfInBounds_toArray, List.set_cons_zero, List.set_cons_succ]
      have hB := hHeld.1
      refine one_ready (i := 7) rfl (by kernel_rfl) (by rfl) (fun K hK => ?_)
      go_simp
      refine hK.out _ _ (⟨Aft.alloc hHeld.1 _, Aft.cell ((Aft.refl _).alloc _) hHeld.2.1, Aft.cell ((Aft.refl _).alloc _) hHeld.2.2⟩) (fun hHeld => ?_)
      clear hK K
      try simp only [Act.put, List.setIfInBounds_toArray, List.set_cons_zero, List.set_cons_succ]
      refine one_ready (i := 8) rfl (by kernel_rfl) (by rfl) (fun K hK => ?_)
      have hPre := hHeld
      go_simp
      go_at_call 42
      refine (collect_any _ 3 3 [⟨Xr, nr, cr, W x k R⟩, ⟨some ⟨_, 0, none⟩, 1, 1, [x.jo]⟩, ⟨Xh, nh, ch, col [dig x m, [pw]]⟩] _ (three_at (by first | rfl | simp) Rr.out (row1 (by first | exact Aft.cell Nr (cell1 _ _ _) | exact Aft.cell (Aft.trans (Below.drew (Aft.refl _)) Nr) (cell1 _ _ _))) (Rh.out.aft hB) 22) (by simp [lists]; omega)).mono ?_
      rintro e' w9 ⟨⟨Xz, nz, cz, rfl, rz⟩, Nz⟩
      have Rz := Lib.hid rz
      clear rz
      try go_simp
      refine hK.out _ _ (⟨Aft.trans hPre.1 Nz, Aft.cell Nz hPre.2.1, Aft.cell Nz hPre.2.2⟩) (fun hHeld => ?_)
      clear hK K
      try simp only [Act.put, List.setIfInBounds_toArray, List.set_cons_zero, List.set_cons_succ]
      refine take_on (i := 9) (v := ?v5041) rfl (by kernel_rfl) (by kernel_rfl) (by kernel_rfl) (fun _ _ _ h => h) (by rfl) (by assumption) ?y5041 ?_
      case y5041 => (intro w hSw; (try dsimp only at hSw); go_simp; (try with_reducible rfl))
      try simp only [Act.put, List.setIfInBounds_toArray, List.set_cons_zero, List.set_cons_succ]
      refine wpAnyH_done (by kernel_rfl) ?_ _
      go_wp2
      go_ret
      exact ⟨⟨Xz, nz, cz, rfl, by rw [HV.out, HH.out]; exact Rz.out⟩, AWB.trans hHeld.1⟩
  · go_enter Tryd.func50, Tryd.ntmps50
    go_wp2_with fail
    refine (HG.out _).mono ?_
    rintro e w1 ⟨rfl, rfl⟩
    go_wp2
    go_quiet (fail)
    go_wp2_with fail
    refine (HM.out _ (Aft.drewN (Aft.refl _) _)).mono ?_
    rintro e w2 ⟨⟨Xd, nd, cd, rfl, rd⟩, Nd⟩
    have Rd := Lib.hid rd
    clear rd
    have Awd := Aft.trans (Aft.drewN (Aft.refl w) _) Nd
    go_wp2_with fail
    refine (collect_any _ 2 2 [⟨Xd, nd, cd, dig x m⟩, ⟨some ⟨pb, poff + k, none⟩, 1, x.pc - k, [pw]⟩] _ (two_lls Rd.out (HO.out.aft Awd) 22) (by simp [lists]; omega)).mono ?_
    rintro e w3 ⟨⟨Xh, nh, ch, rfl, rh⟩, Nh⟩
    have Rh := Lib.hid rh
    clear rh
    have AWB := Awd.trans (((Aft.refl w2).alloc _).trans Nh)
    have f3 := AWB.cell hfn
    have j3 := AWB.cell c4
    have s3 := AWB.cell c3
    clear Nd Nh Awd
    go_wp2
    clear c0 c2 c5 c6 c7 hk1 hk2 hk3 hk4 hq1 hq2 hr1 hr2 hpz hnb hwm hsub0 hsub1 HG HM HSp HPW
    refine wp_region_held_drew (S := fun w' => Aft w3 w' ∧ w'.cell? ⟨Bw, 0, none⟩ = some (.func (.func 50) #[] #[.pointer (some ⟨Bs, 0, none⟩), .pointer (some ⟨Bw, 0, none⟩)]) ∧ w'.cell? ⟨Bs, 4, none⟩ = some (.string x.jo)) (by kernel_rfl) (⟨Below.drew (Aft.refl _), f3, j3⟩) (fun hHeld => ?_)
    refine take_on (i := 0) (v := ?v5043) rfl (by kernel_rfl) (by kernel_rfl) (by kernel_rfl) (fun _ _ _ h => h) (by rfl) (by assumption) ?y5043 ?_
    case y5043 => (intro w hSw; (try dsimp only at hSw); go_simp; (try with_reducible rfl))
    try simp only [Act.put, List.setIfInBounds_toArray, List.set_cons_zero, List.set_cons_succ]
    refine take_on (i := 1) (v := ?v5044) rfl (by kernel_rfl) (by kernel_rfl) (by kernel_rfl) (fun _ _ _ h => h) (by rfl) (by assumption) ?y5044 ?_
    case y5044 => (intro w hSw; (try dsimp only at hSw); go_simp; (try with_reducible rfl))
    try simp only [Act.put, List.setIfInBounds_toArray, List.set_cons_zero, List.set_cons_succ]
    refine take_on (i := 3) (v := ?v5045) rfl (by kernel_rfl) (by kernel_rfl) (by kernel_rfl) (fun _ _ _ h => h) (by rfl) (by assumption) ?y5045 ?_
    case y5045 => (intro w hSw; (try dsimp only at hSw); go_simp; (try with_reducible rfl))
    try simp only [Act.put, List.setIfInBounds_toArray, List.set_cons_zero, List.set_cons_succ]
    refine take_on (i := 4) (v := ?v5046) rfl (by kernel_rfl) (by kernel_rfl) (by kernel_rfl) (fun _ _ _ h => h) (by rfl) (by assumption) ?y5046 ?_
    case y5046 => (intro w hSw; (try dsimp only at hSw); go_simp; (try with_reducible rfl))
    try simp only [Act.put, List.setIfInBounds_toArray, List.set_cons_zero, List.set_cons_succ]
    refine take_on (i := 6) (v := ?v5047) rfl (by kernel_rfl) (by kernel_rfl) (by kernel_rfl) (fun _ _ _ h => h) (by rfl) (by assumption) ?y5047 ?_
    case y5047 => (intro w hSw; (try dsimp only at hSw); go_simp; (try with_reducible rfl))
    try simp only [Act.put, List.setIfInBounds_toArray, List.set_cons_zero, List.set_cons_succ]
    refine two_readyN (i := 2) (j := 5) rfl rfl (by kernel_rfl) (by rfl) (by rfl) (fun K hK => ?_) (fun K hK => ?_)
    · have hPre := hHeld
      go_simp
      go_at_call 50
      refine (HR.out _ (AWB.trans hPre.1)).mono ?_
      rintro e' w8 ⟨⟨Xr, nr, cr, rfl, rr⟩, Nr⟩
      have Rr := Lib.hid rr
      clear rr
      try go_simp
      refine hK.out _ _ (⟨Aft.trans hPre.1 Nr, Aft.cell Nr hPre.2.1, Aft.cell Nr hPre.2.2⟩) (fun hHeld => ?_)
      clear hK K
      try simp only [Act.put, List.setIfInBounds_toArray, List.set_cons_zero, List.set_cons_succ]
      refine one_ready (i := 5) rfl (by kernel_rfl) (by rfl) (fun K hK => ?_)
      go_simp
      refine hK.out _ _ (⟨Aft.alloc hHeld.1 _, Aft.cell ((Aft.refl _).alloc _) hHeld.2.1, Aft.cell ((Aft.refl _).alloc _) hHeld.2.2⟩) (fun hHeld => ?_)
      clear hK K
      try simp only [Act.put, List.setIfInBounds_toArray, List.set_cons_zero, List.set_cons_succ]
      have hB := hHeld.1
      refine one_ready (i := 7) rfl (by kernel_rfl) (by rfl) (fun K hK => ?_)
      go_simp
      refine hK.out _ _ (⟨Aft.alloc hHeld.1 _, Aft.cell ((Aft.refl _).alloc _) hHeld.2.1, Aft.cell ((Aft.refl _).alloc _) hHeld.2.2⟩) (fun hHeld => ?_)
      clear hK K
      try simp only [Act.put, List.setIfInBounds_toArray, List.set_cons_zero, List.set_cons_succ]
      refine one_ready (i := 8) rfl (by kernel_rfl) (by rfl) (fun K hK => ?_)
      have hPre := hHeld
      go_simp
      go_at_call 42
      refine (collect_any _ 3 3 [⟨Xr, nr, cr, W x k R⟩, ⟨some ⟨_, 0, none⟩, 1, 1, [x.jo]⟩, ⟨Xh, nh, ch, col [dig x m, [pw]]⟩] _ (three_at (by first | rfl | simp) (Rr.out.aft ((Aft.refl _).alloc _)) (row1 (by exact cell1 _ _ _)) (Rh.out.aft hB) 22) (by simp [lists]; omega)).mono ?_
      rintro e' w9 ⟨⟨Xz, nz, cz, rfl, rz⟩, Nz⟩
      have Rz := Lib.hid rz
      clear rz
      try go_simp
      refine hK.out _ _ (⟨Aft.trans hPre.1 Nz, Aft.cell Nz hPre.2.1, Aft.cell Nz hPre.2.2⟩) (fun hHeld => ?_)
      clear hK K
      try simp only [Act.put, List.setIfInBounds_toArray, List.set_cons_zero, List.set_cons_succ]
      refine take_on (i := 9) (v := ?v5049) rfl (by kernel_rfl) (by kernel_rfl) (by kernel_rfl) (fun _ _ _ h => h) (by rfl) (by assumption) ?y5049 ?_
      case y5049 => (intro w hSw; (try dsimp only at hSw); go_simp; (try with_reducible rfl))
      try simp only [Act.put, List.setIfInBounds_toArray, List.set_cons_zero, List.set_cons_succ]
      refine wpAnyH_done (by kernel_rfl) ?_ _
      go_wp2
      go_ret
      exact ⟨⟨Xz, nz, cz, rfl, by rw [HV.out, HH.out]; exact Rz.out⟩, AWB.trans hHeld.1⟩
    · go_simp
      refine hK.out _ _ (⟨Aft.alloc hHeld.1 _, Aft.cell ((Aft.refl _).alloc _) hHeld.2.1, Aft.cell ((Aft.refl _).alloc _) hHeld.2.2⟩) (fun hHeld => ?_)
      clear hK K
      try simp only [Act.put, List.setIfInBounds_toArray, List.set_cons_zero, List.set_cons_succ]
      refine one_ready (i := 2) rfl (by kernel_rfl) (by rfl) (fun K hK => ?_)
      have hPre := hHeld
      go_simp
      go_at_call 50
      refine (HR.out _ (AWB.trans hPre.1)).mono ?_
      rintro e' w8 ⟨⟨Xr, nr, cr, rfl, rr⟩, Nr⟩
      have Rr := Lib.hid rr
      clear rr
      try go_simp
      refine hK.out _ _ (⟨Aft.trans hPre.1 Nr, Aft.cell Nr hPre.2.1, Aft.cell Nr hPre.2.2⟩) (fun hHeld => ?_)
      clear hK K
      try simp only [Act.put, List.setIfInBounds_toArray, List.set_cons_zero, List.set_cons_succ]
      have hB := hHeld.1
      refine one_ready (i := 7) rfl (by kernel_rfl) (by rfl) (fun K hK => ?_)
      go_simp
      refine hK.out _ _ (⟨Aft.alloc hHeld.1 _, Aft.cell ((Aft.refl _).alloc _) hHeld.2.1, Aft.cell ((Aft.refl _).alloc _) hHeld.2.2⟩) (fun hHeld => ?_)
      clear hK K
      try simp only [Act.put, List.setIfInBounds_toArray, List.set_cons_zero, List.set_cons_succ]
      refine one_ready (i := 8) rfl (by kernel_rfl) (by rfl) (fun K hK => ?_)
      have hPre := hHeld
      go_simp
      go_at_call 42
      refine (collect_any _ 3 3 [⟨Xr, nr, cr, W x k R⟩, ⟨some ⟨_, 0, none⟩, 1, 1, [x.jo]⟩, ⟨Xh, nh, ch, col [dig x m, [pw]]⟩] _ (three_at (by first | rfl | simp) Rr.out (row1 (by first | exact Aft.cell Nr (cell1 _ _ _) | exact Aft.cell (Aft.trans (Below.drew (Aft.refl _)) Nr) (cell1 _ _ _))) (Rh.out.aft hB) 22) (by simp [lists]; omega)).mono ?_
      rintro e' w9 ⟨⟨Xz, nz, cz, rfl, rz⟩, Nz⟩
      have Rz := Lib.hid rz
      clear rz
      try go_simp
      refine hK.out _ _ (⟨Aft.trans hPre.1 Nz, Aft.cell Nz hPre.2.1, Aft.cell Nz hPre.2.2⟩) (fun hHeld => ?_)
      clear hK K
      try simp only [Act.put, List.setIfInBounds_toArray, List.set_cons_zero, List.set_cons_succ]
      refine take_on (i := 9) (v := ?v5048) rfl (by kernel_rfl) (by kernel_rfl) (by kernel_rfl) (fun _ _ _ h => h) (by rfl) (by assumption) ?y5048 ?_
      case y5048 => (intro w hSw; (try dsimp only at hSw); go_simp; (try with_reducible rfl))
      try simp only [Act.put, List.setIfInBounds_toArray, List.set_cons_zero, List.set_cons_succ]
      refine wpAnyH_done (by kernel_rfl) ?_ _
      go_wp2
      go_ret
      exact ⟨⟨Xz, nz, cz, rfl, by rw [HV.out, HH.out]; exact Rz.out⟩, AWB.trans hHeld.1⟩
  · go_enter Tryd.func50, Tryd.ntmps50
    go_wp2_with fail
    refine (HG.out _).mono ?_
    rintro e w1 ⟨rfl, rfl⟩
    go_wp2
    go_quiet (fail)
    go_wp2_with fail
    refine (HM.out _ (Aft.drewN (Aft.refl _) _)).mono ?_
    rintro e w2 ⟨⟨Xd, nd, cd, rfl, rd⟩, Nd⟩
    have Rd := Lib.hid rd
    clear rd
    have Awd := Aft.trans (Aft.drewN (Aft.refl w) _) Nd
    go_wp2_with fail
    refine (collect_any _ 2 2 [⟨Xd, nd, cd, dig x m⟩, ⟨some ⟨pb, poff + k, none⟩, 1, x.pc - k, [pw]⟩] _ (two_lls Rd.out (HO.out.aft Awd) 22) (by simp [lists]; omega)).mono ?_
    rintro e w3 ⟨⟨Xh, nh, ch, rfl, rh⟩, Nh⟩
    have Rh := Lib.hid rh
    clear rh
    have AWB := Awd.trans (((Aft.refl w2).alloc _).trans Nh)
    have f3 := AWB.cell hfn
    have j3 := AWB.cell c4
    have s3 := AWB.cell c3
    clear Nd Nh Awd
    go_wp2
    clear c0 c2 c5 c6 c7 hk1 hk2 hk3 hk4 hq1 hq2 hr1 hr2 hpz hnb hwm hsub0 hsub1 HG HM HSp HPW
    refine wp_region_held_drew (S := fun w' => Aft w3 w' ∧ w'.cell? ⟨Bw, 0, none⟩ = some (.func (.func 50) #[] #[.pointer (some ⟨Bs, 0, none⟩), .pointer (some ⟨Bw, 0, none⟩)]) ∧ w'.cell? ⟨Bs, 4, none⟩ = some (.string x.jo)) (by kernel_rfl) (⟨Below.drew (Aft.refl _), f3, j3⟩) (fun hHeld => ?_)
    refine take_on (i := 0) (v := ?v5050) rfl (by kernel_rfl) (by kernel_rfl) (by kernel_rfl) (fun _ _ _ h => h) (by rfl) (by assumption) ?y5050 ?_
    case y5050 => (intro w hSw; (try dsimp only at hSw); go_simp; (try with_reducible rfl))
    try simp only [Act.put, List.setIfInBounds_toArray, List.set_cons_zero, List.set_cons_succ]
    refine take_on (i := 1) (v := ?v5051) rfl (by kernel_rfl) (by kernel_rfl) (by kernel_rfl) (fun _ _ _ h => h) (by rfl) (by assumption) ?y5051 ?_
    case y5051 => (intro w hSw; (try dsimp only at hSw); go_simp; (try with_reducible rfl))
    try simp only [Act.put, List.setIfInBounds_toArray, List.set_cons_zero, List.set_cons_succ]
    refine take_on (i := 3) (v := ?v5052) rfl (by kernel_rfl) (by kernel_rfl) (by kernel_rfl) (fun _ _ _ h => h) (by rfl) (by assumption) ?y5052 ?_
    case y5052 => (intro w hSw; (try dsimp only at hSw); go_simp; (try with_reducible rfl))
    try simp only [Act.put, List.setIfInBounds_toArray, List.set_cons_zero, List.set_cons_succ]
    refine take_on (i := 4) (v := ?v5053) rfl (by kernel_rfl) (by kernel_rfl) (by kernel_rfl) (fun _ _ _ h => h) (by rfl) (by assumption) ?y5053 ?_
    case y5053 => (intro w hSw; (try dsimp only at hSw); go_simp; (try with_reducible rfl))
    try simp only [Act.put, List.setIfInBounds_toArray, List.set_cons_zero, List.set_cons_succ]
    refine take_on (i := 6) (v := ?v5054) rfl (by kernel_rfl) (by kernel_rfl) (by kernel_rfl) (fun _ _ _ h => h) (by rfl) (by assumption) ?y5054 ?_
    case y5054 => (intro w hSw; (try dsimp only at hSw); go_simp; (try with_reducible rfl))
    try simp only [Act.put, List.setIfInBounds_toArray, List.set_cons_zero, List.set_cons_succ]
    refine two_readyN (i := 2) (j := 5) rfl rfl (by kernel_rfl) (by rfl) (by rfl) (fun K hK => ?_) (fun K hK => ?_)
    · have hPre := hHeld
      go_simp
      go_at_call 50
      refine (HR.out _ (AWB.trans hPre.1)).mono ?_
      rintro e' w8 ⟨⟨Xr, nr, cr, rfl, rr⟩, Nr⟩
      have Rr := Lib.hid rr
      clear rr
      try go_simp
      refine hK.out _ _ (⟨Aft.trans hPre.1 Nr, Aft.cell Nr hPre.2.1, Aft.cell Nr hPre.2.2⟩) (fun hHeld => ?_)
      clear hK K
      try simp only [Act.put, List.setIfInBounds_toArray, List.set_cons_zero, List.set_cons_succ]
      refine one_ready (i := 5) rfl (by kernel_rfl) (by rfl) (fun K hK => ?_)
      go_simp
      refine hK.out _ _ (⟨Aft.alloc hHeld.1 _, Aft.cell ((Aft.refl _).alloc _) hHeld.2.1, Aft.cell ((Aft.refl _).alloc _) hHeld.2.2⟩) (fun hHeld => ?_)
      clear hK K
      try simp only [Act.put, List.setIfInBounds_toArray, List.set_cons_zero, List.set_cons_succ]
      have hB := hHeld.1
      refine one_ready (i := 7) rfl (by kernel_rfl) (by rfl) (fun K hK => ?_)
      go_simp
      refine hK.out _ _ (⟨Aft.alloc hHeld.1 _, Aft.cell ((Aft.refl _).alloc _) hHeld.2.1, Aft.cell ((Aft.refl _).alloc _) hHeld.2.2⟩) (fun hHeld => ?_)
      clear hK K
      try simp only [Act.put, List.setIfInBounds_toArray, List.set_cons_zero, List.set_cons_succ]
      refine one_ready (i := 8) rfl (by kernel_rfl) (by rfl) (fun K hK => ?_)
      have hPre := hHeld
      go_simp
      go_at_call 42
      refine (collect_any _ 3 3 [⟨Xr, nr, cr, W x k R⟩, ⟨some ⟨_, 0, none⟩, 1, 1, [x.jo]⟩, ⟨Xh, nh, ch, col [dig x m, [pw]]⟩] _ (three_at (by first | rfl | simp) (Rr.out.aft ((Aft.refl _).alloc _)) (row1 (by exact cell1 _ _ _)) (Rh.out.aft hB) 22) (by simp [lists]; omega)).mono ?_
      rintro e' w9 ⟨⟨Xz, nz, cz, rfl, rz⟩, Nz⟩
      have Rz := Lib.hid rz
      clear rz
      try go_simp
      refine hK.out _ _ (⟨Aft.trans hPre.1 Nz, Aft.cell Nz hPre.2.1, Aft.cell Nz hPre.2.2⟩) (fun hHeld => ?_)
      clear hK K
      try simp only [Act.put, List.setIfInBounds_toArray, List.set_cons_zero, List.set_cons_succ]
      refine take_on (i := 9) (v := ?v5056) rfl (by kernel_rfl) (by kernel_rfl) (by kernel_rfl) (fun _ _ _ h => h) (by rfl) (by assumption) ?y5056 ?_
      case y5056 => (intro w hSw; (try dsimp only at hSw); go_simp; (try with_reducible rfl))
      try simp only [Act.put, List.setIfInBounds_toArray, List.set_cons_zero, List.set_cons_succ]
      refine wpAnyH_done (by kernel_rfl) ?_ _
      go_wp2
      go_ret
      exact ⟨⟨Xz, nz, cz, rfl, by rw [HV.out, HH.out]; exact Rz.out⟩, AWB.trans hHeld.1⟩
    · go_simp
      refine hK.out _ _ (⟨Aft.alloc hHeld.1 _, Aft.cell ((Aft.refl _).alloc _) hHeld.2.1, Aft.cell ((Aft.refl _).alloc _) hHeld.2.2⟩) (fun hHeld => ?_)
      clear hK K
      try simp only [Act.put, List.setIfInBounds_toArray, List.set_cons_zero, List.set_cons_succ]
      refine one_ready (i := 2) rfl (by kernel_rfl) (by rfl) (fun K hK => ?_)
      have hPre := hHeld
      go_simp
      go_at_call 50
      refine (HR.out _ (AWB.trans hPre.1)).mono ?_
      rintro e' w8 ⟨⟨Xr, nr, cr, rfl, rr⟩, Nr⟩
      have Rr := Lib.hid rr
      clear rr
      try go_simp
      refine hK.out _ _ (⟨Aft.trans hPre.1 Nr, Aft.cell Nr hPre.2.1, Aft.cell Nr hPre.2.2⟩) (fun hHeld => ?_)
      clear hK K
      try simp only [Act.put, List.setIfInBounds_toArray, List.set_cons_zero, List.set_cons_succ]
      have hB := hHeld.1
      refine one_ready (i := 7) rfl (by kernel_rfl) (by rfl) (fun K hK => ?_)
      go_simp
      refine hK.out _ _ (⟨Aft.alloc hHeld.1 _, Aft.cell ((Aft.refl _).alloc _) hHeld.2.1, Aft.cell ((Aft.refl _).alloc _) hHeld.2.2⟩) (fun hHeld => ?_)
      clear hK K
      try simp only [Act.put, List.setIfInBounds_toArray, List.set_cons_zero, List.set_cons_succ]
      refine one_ready (i := 8) rfl (by kernel_rfl) (by rfl) (fun K hK => ?_)
      have hPre := hHeld
      go_simp
      go_at_call 42
      refine (collect_any _ 3 3 [⟨Xr, nr, cr, W x k R⟩, ⟨some ⟨_, 0, none⟩, 1, 1, [x.jo]⟩, ⟨Xh, nh, ch, col [dig x m, [pw]]⟩] _ (three_at (by first | rfl | simp) Rr.out (row1 (by first | exact Aft.cell Nr (cell1 _ _ _) | exact Aft.cell (Aft.trans (Below.drew (Aft.refl _)) Nr) (cell1 _ _ _))) (Rh.out.aft hB) 22) (by simp [lists]; omega)).mono ?_
      rintro e' w9 ⟨⟨Xz, nz, cz, rfl, rz⟩, Nz⟩
      have Rz := Lib.hid rz
      clear rz
      try go_simp
      refine hK.out _ _ (⟨Aft.trans hPre.1 Nz, Aft.cell Nz hPre.2.1, Aft.cell Nz hPre.2.2⟩) (fun hHeld => ?_)
      clear hK K
      try simp only [Act.put, List.setIfInBounds_toArray, List.set_cons_zero, List.set_cons_succ]
      refine take_on (i := 9) (v := ?v5055) rfl (by kernel_rfl) (by kernel_rfl) (by kernel_rfl) (fun _ _ _ h => h) (by rfl) (by assumption) ?y5055 ?_
      case y5055 => (intro w hSw; (try dsimp only at hSw); go_simp; (try with_reducible rfl))
      try simp only [Act.put, List.setIfInBounds_toArray, List.set_cons_zero, List.set_cons_succ]
      refine wpAnyH_done (by kernel_rfl) ?_ _
      go_wp2
      go_ret
      exact ⟨⟨Xz, nz, cz, rfl, by rw [HV.out, HH.out]; exact Rz.out⟩, AWB.trans hHeld.1⟩
end Go.Proofs.YtdehghmpfkhljaaDoor
