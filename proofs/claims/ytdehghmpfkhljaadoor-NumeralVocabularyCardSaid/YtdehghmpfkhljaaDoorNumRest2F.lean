/-
  The closure of speller at numbers with a remainder and no subtraction, where the quotient is 1 and said, the great part first. Conditions: the system is valid and lies where the closure looks.
-/
import Derived.Test.YtdehghmpfkhljaaDoorNumLow
namespace Go.Proofs.YtdehghmpfkhljaaDoor
open Go.RowKit
open NumPlain

set_option maxRecDepth 100000 in
set_option maxHeartbeats 3200000 in
theorem rest2F_any (x : Nm) (hx : Ok x) (k PK n : Nat) (hk : k ≤ 2) (hPK : bs x ^ (k + 1) = PK) (hge : ¬ n < bs x ^ (k + 1)) (hhi : n < bs x ^ (k + 2)) (hrz : n % PK ≠ 0) (hns : ¬ (0 < x.sub ∧ PK ≤ n % PK + x.sub.toNat ∧ n / PK + 1 < bs x)) (hlow : Low x k) (hcs : n / PK = 1 ∧ x.om = false) (hsf : x.sf = false) (Bs Bw : Nat) (w : World) (h : Spl w Bs Bw x) :
    Calls Tryd.prog 50 #[.int .i64 (n : Int), .pointer (some ⟨Bs, 0, none⟩), .pointer (some ⟨Bw, 0, none⟩)] w (SlPost w (W x (k + 1) n)) := by
  have hbs := hx.bs
  have hbase : x.base = (bs x : Int) := by unfold bs; rcases hx.base with h | h <;> rw [h] <;> rfl
  have hpn := hx.pn
  have hsub0 := hx.sub0
  have hsub1 := hx.sub1
  have hpc := h.wds.rp.le
  have hpm := h.wds.rp.cmax
  have c0 := h.box.c0
  have c2 := h.box.c2
  have c3 := h.box.c3
  have c4 := h.box.c4
  have c5 := h.box.c5
  have c6 := h.box.c6
  have c7 := h.box.c7
  have hfn := h.fn
  rw [hbase] at c0 hsub1
  obtain ⟨pb, poff, pw, hPA, hpw, _⟩ := h.wds.rp.at_ (show k < x.pn by omega)
  have hrp := h.wds.rp
  rw [hPA] at c2 hrp
  have hone := Rw.one hrp hpw
  have HO := Lib.hid hone
  have HPW := Lib.hid (show x.ps.getD k ByteArray.empty = pw by simp [List.getD, hpw])
  have hk1 : (k : Int) + 1 ≤ (x.pn : Int) := by omega
  have hk2 : ¬ x.pc = k := by omega
  have hk3 : (k : Int) ≤ (x.pc : Int) := by omega
  have hk4 : (k : Int) + 1 ≤ (x.pc : Int) := by omega
  have hP1 := pow_bounds hbs (show k + 1 ≤ 3 by omega)
  have hPb : bs x ≤ PK := by have := pow_le hbs (show 1 ≤ k + 1 by omega); rw [Nat.pow_one, hPK] at this; exact this
  have hPs : bs x ^ (k + 2) = bs x * PK := by rw [← hPK, Nat.pow_succ (n := bs x) (m := k + 1), Nat.mul_comm]
  rw [hPK] at hP1
  have hcf := enterW
  have HSp := Lib.hid h
  have hlo : PK ≤ n := by rw [← hPK]; omega
  have hQR := Nat.div_add_mod n PK
  have hRlt := Nat.mod_lt n (show 0 < PK by omega)
  have hQ1 : 1 ≤ n / PK := (Nat.le_div_iff_mul_le (by omega)).2 (by omega)
  have hQB : n / PK < bs x := by rw [Nat.div_lt_iff_lt_mul (by omega)]; rw [hPs] at hhi; exact hhi
  have HG := Lib.hid (fun w0 => gp_any (bs x) k n PK w0 hPK hbs hk (by rw [hPK]; exact hlo) hhi)
  have hw0 := W_high hge
  rw [hPK] at hw0
  have hq1 : (n : Int) / (PK : Int) = ((n / PK : Nat) : Int) := by simp
  have hr1 : (n : Int) % (PK : Int) = ((n % PK : Nat) : Int) := by simp
  have hq2 : (n : Int).tdiv (PK : Int) = ((n / PK : Nat) : Int) := by rw [Int.tdiv_eq_ediv_of_nonneg (by omega)]; exact hq1
  have hr2 : (n : Int).tmod (PK : Int) = ((n % PK : Nat) : Int) := by rw [Int.tmod_eq_emod_of_nonneg (by omega)]; exact hr1
  have hpz : ¬ (PK : Int) = 0 := by omega
  have hnb : ¬ (n : Int) < (bs x : Int) := by omega
  rw [if_neg hns, if_neg hrz] at hw0
  have HC : ¬ (0 < x.sub) ∨ (0 < x.sub ∧ ¬ ((PK : Int) - x.sub ≤ ((n % PK : Nat) : Int))) ∨ (0 < x.sub ∧ ((PK : Int) - x.sub ≤ ((n % PK : Nat) : Int)) ∧ ¬ (((n / PK : Nat) : Int) + 1 < (bs x : Int))) := by
    by_cases h1 : 0 < x.sub
    · by_cases h2 : (PK : Int) - x.sub ≤ ((n % PK : Nat) : Int)
      · by_cases h3 : ((n / PK : Nat) : Int) + 1 < (bs x : Int)
        · exact absurd ⟨h1, by omega, by omega⟩ hns
        · exact .inr (.inr ⟨h1, h2, h3⟩)
      · exact .inr (.inl ⟨h1, h2⟩)
    · exact .inl h1
  have HR := Lib.hid (fun w0 (a : Aft w w0) => hlow (n % PK) (by rw [hPK]; exact hRlt) Bs Bw w0 (h.aft a))
  have HM := Lib.hid (fun w0 (a : Aft w w0) => dig_any x hx (n / PK) hQB Bs Bw w0 (h.aft a))
  have hdl := dig_len x (n / PK)
  have hwl := W_len x k (n % PK)
  have hwm : IntKind.i64.wrap ((n / PK : Nat) : Int) = ((n / PK : Nat) : Int) := wrap_small _ (by omega) (by omega)
  have HHD := Lib.hid (show headW x (n / PK) k = if 1 < n / PK ∨ x.om = false then col [dig x (n / PK), [pw]] else [pw] by unfold headW; rw [HPW.out])
  have hrz' : ¬ ((n % PK : Nat) : Int) = 0 := by omega
  have hB10 : 10 ≤ bs x := by omega
  clear hx h hPK hPs hbase hrp hpw hPA hone hbs hns hge hhi hlow hQR
  generalize n % PK = R at *
  generalize n / PK = m at *
  generalize bs x = B at *
  generalize headW x m k = HW at *
  generalize W x (k + 1) n = RES at *
  rw [hsf] at c3 hw0
  have HV := Lib.hid hw0
  clear hw0
  obtain ⟨rfl, hom⟩ := hcs
  have HH := Lib.hid (show HW = col [dig x 1, [pw]] by rw [HHD.out, if_pos (.inr hom)])
  rw [hom] at c7
  have hhl : (col [dig x 1, [pw]]).length ≤ 2 := by have h := col_len [dig x 1, [pw]]; simp only [List.flatten_cons, List.flatten_nil, List.append_nil, List.length_append, List.length_cons, List.length_nil] at h; omega
  clear HHD
  have HC2 : ¬ (0 < x.sub) ∨ (0 < x.sub ∧ ¬ ((PK : Int) - x.sub ≤ (R : Int))) := by
    rcases HC with h | h | ⟨_, _, h⟩
    · exact .inl h
    · exact .inr h
    · exact absurd (by omega) h
  clear HC
  rcases HC2 with hS | ⟨hS, hS2⟩
  · go_enter Tryd.func50, Tryd.ntmps50
    go_wp2_with fail
    refine (HG.out _).mono ?_
    rintro e w1 ⟨rfl, rfl⟩
    go_wp2
    go_quiet (fail)
    go_wp2_with fail
    refine (HM.out _ (Aft.drewN (Aft.refl _) _)).mono ?_
    rintro e w2 ⟨⟨Xd, nd, cd, rfl, rd⟩, Nd⟩
    have Rd := Lib.hid rd
    clear rd
    have Awd := Aft.trans (Aft.drewN (Aft.refl w) _) Nd
    go_wp2_with fail
    refine (collect_any _ 2 2 [⟨Xd, nd, cd, dig x 1⟩, ⟨some ⟨pb, poff + k, none⟩, 1, x.pc - k, [pw]⟩] _ (two_lls Rd.out (HO.out.aft Awd) 22) (by simp [lists]; omega)).mono ?_
    rintro e w3 ⟨⟨Xh, nh, ch, rfl, rh⟩, Nh⟩
    have Rh := Lib.hid rh
    clear rh
    have AWB := Awd.trans (((Aft.refl w2).alloc _).trans Nh)
    have f3 := AWB.cell hfn
    have j3 := AWB.cell c4
    have s3 := AWB.cell c3
    clear Nd Nh Awd
    go_wp2
    clear c0 c2 c5 c6 c7 hk1 hk2 hk3 hk4 hq1 hq2 hr1 hr2 hpz hnb hwm hsub0 hsub1 HG HM HSp HPW
    refine wp_region_held_drew (S := fun w' => Aft w3 w' ∧ w'.cell? ⟨Bw, 0, none⟩ = some (.func (.func 50) #[] #[.pointer (some ⟨Bs, 0, none⟩), .pointer (some ⟨Bw, 0, none⟩)]) ∧ w'.cell? ⟨Bs, 4, none⟩ = some (.string x.jo)) (by kernel_rfl) (⟨Below.drew (Aft.refl _), f3, j3⟩) (fun hHeld => ?_)
    refine take_on (i := 0) (v := ?v5057) rfl (by kernel_rfl) (by kernel_rfl) (by kernel_rfl) (fun _ _ _ h => h) (by rfl) (by assumption) ?y5057 ?_
    case y5057 => (intro w hSw; (try dsimp only at hSw); go_simp; (try with_reducible rfl))
    try simp only [Act.put, List.setIfInBounds_toArray, List.set_cons_zero, List.set_cons_succ]
    refine take_on (i := 1) (v := ?v5058) rfl (by kernel_rfl) (by kernel_rfl) (by kernel_rfl) (fun _ _ _ h => h) (by rfl) (by assumption) ?y5058 ?_
    case y5058 => (intro w hSw; (try dsimp only at hSw); go_simp; (try with_reducible rfl))
    try simp only [Act.put, List.setIfInBounds_toArray, List.set_cons_zero, List.set_cons_succ]
    refine take_on (i := 2) (v := ?v5059) rfl (by kernel_rfl) (by kernel_rfl) (by kernel_rfl) (fun _ _ _ h => h) (by rfl) (by assumption) ?y5059 ?_
    case y5059 => (intro w hSw; (try dsimp only at hSw); go_simp; (try with_reducible rfl))
    try simp only [Act.put, List.setIfInBounds_toArray, List.set_cons_zero, List.set_cons_succ]
    refine take_on (i := 4) (v := ?v5060) rfl (by kernel_rfl) (by kernel_rfl) (by kernel_rfl) (fun _ _ _ h => h) (by rfl) (by assumption) ?y5060 ?_
    case y5060 => (intro w hSw; (try dsimp only at hSw); go_simp; (try with_reducible rfl))
    try simp only [Act.put, List.setIfInBounds_toArray, List.set_cons_zero, List.set_cons_succ]
    refine take_on (i := 5) (v := ?v5061) rfl (by kernel_rfl) (by kernel_rfl) (by kernel_rfl) (fun _ _ _ h => h) (by rfl) (by assumption) ?y5061 ?_
    case y5061 => (intro w hSw; (try dsimp only at hSw); go_simp; (try with_reducible rfl))
    try simp only [Act.put, List.setIfInBounds_toArray, List.set_cons_zero, List.set_cons_succ]
    refine two_readyN (i := 3) (j := 6) rfl rfl (by kernel_rfl) (by rfl) (by rfl) (fun K hK => ?_) (fun K hK => ?_)
    · go_simp
      refine hK.out _ _ (⟨Aft.alloc hHeld.1 _, Aft.cell ((Aft.refl _).alloc _) hHeld.2.1, Aft.cell ((Aft.refl _).alloc _) hHeld.2.2⟩) (fun hHeld => ?_)
      clear hK K
      try simp only [Act.put, List.setIfInBounds_toArray, List.set_cons_zero, List.set_cons_succ]
      refine one_ready (i := 6) rfl (by kernel_rfl) (by rfl) (fun K hK => ?_)
      have hPre := hHeld
      go_simp
      go_at_call 50
      refine (HR.out _ (AWB.trans hPre.1)).mono ?_
      rintro e' w8 ⟨⟨Xr, nr, cr, rfl, rr⟩, Nr⟩
      have Rr := Lib.hid rr
      clear rr
      try go_simp
      refine hK.out _ _ (⟨Aft.trans hPre.1 Nr, Aft.cell Nr hPre.2.1, Aft.cell Nr hPre.2.2⟩) (fun hHeld => ?_)
      clear hK K
      try simp only [Act.put, List.setIfInBounds_toArray, List.set_cons_zero, List.set_cons_succ]
      have hB := hHeld.1
      refine one_ready (i := 7) rfl (by kernel_rfl) (by rfl) (fun K hK => ?_)
      go_simp
      refine hK.out _ _ (⟨Aft.alloc hHeld.1 _, Aft.cell ((Aft.refl _).alloc _) hHeld.2.1, Aft.cell ((Aft.refl _).alloc _) hHeld.2.2⟩) (fun hHeld => ?_)
      clear hK K
      try simp only [Act.put, List.setIfInBounds_toArray, List.set_cons_zero, List.set_cons_succ]
      refine one_ready (i := 8) rfl (by kernel_rfl) (by rfl) (fun K hK => ?_)
      have hPre := hHeld
      go_simp
      go_at_call 42
      refine (collect_any _ 3 3 [⟨Xh, nh, ch, col [dig x 1, [pw]]⟩, ⟨some ⟨_, 0, none⟩, 1, 1, [x.jo]⟩, ⟨Xr, nr, cr, W x k R⟩] _ (three_at (by first | rfl | simp) (Rh.out.aft hB) (row1 (by first | exact Aft.cell Nr (cell1 _ _ _) | exact Aft.cell (Aft.trans (Below.drew (Aft.refl _)) Nr) (cell1 _ _ _))) Rr.out 22) (by simp [lists]; omega)).mono ?_
      rintro e' w9 ⟨⟨Xz, nz, cz, rfl, rz⟩, Nz⟩
      have Rz := Lib.hid rz
      clear rz
      try go_simp
      refine hK.out _ _ (⟨Aft.trans hPre.1 Nz, Aft.cell Nz hPre.2.1, Aft.cell Nz hPre.2.2⟩) (fun hHeld => ?_)
      clear hK K
      try simp only [Act.put, List.setIfInBounds_toArray, List.set_cons_zero, List.set_cons_succ]
      refine take_on (i := 9) (v := ?v5062) rfl (by kernel_rfl) (by kernel_rfl) (by kernel_rfl) (fun _ _ _ h => h) (by rfl) (by assumption) ?y5062 ?_
      case y5062 => (intro w hSw; (try dsimp only at hSw); go_simp; (try with_reducible rfl))
      try simp only [Act.put, List.setIfInBounds_toArray, List.set_cons_zero, List.set_cons_succ]
      refine wpAnyH_done (by kernel_rfl) ?_ _
      go_wp2
      go_ret
      exact ⟨⟨Xz, nz, cz, rfl, by rw [HV.out, HH.out]; exact Rz.out⟩, AWB.trans hHeld.1⟩
    · have hPre := hHeld
      go_simp
      go_at_call 50
      refine (HR.out _ (AWB.trans hPre.1)).mono ?_
      rintro e' w8 ⟨⟨Xr, nr, cr, rfl, rr⟩, Nr⟩
      have Rr := Lib.hid rr
      clear rr
      try go_simp
      refine hK.out _ _ (⟨Aft.trans hPre.1 Nr, Aft.cell Nr hPre.2.1, Aft.cell Nr hPre.2.2⟩) (fun hHeld => ?_)
      clear hK K
      try simp only [Act.put, List.setIfInBounds_toArray, List.set_cons_zero, List.set_cons_succ]
      refine one_ready (i := 3) rfl (by kernel_rfl) (by rfl) (fun K hK => ?_)
      go_simp
      refine hK.out _ _ (⟨Aft.alloc hHeld.1 _, Aft.cell ((Aft.refl _).alloc _) hHeld.2.1, Aft.cell ((Aft.refl _).alloc _) hHeld.2.2⟩) (fun hHeld => ?_)
      clear hK K
      try simp only [Act.put, List.setIfInBounds_toArray, List.set_cons_zero, List.set_cons_succ]
      have hB := hHeld.1
      refine one_ready (i := 7) rfl (by kernel_rfl) (by rfl) (fun K hK => ?_)
      go_simp
      refine hK.out _ _ (⟨Aft.alloc hHeld.1 _, Aft.cell ((Aft.refl _).alloc _) hHeld.2.1, Aft.cell ((Aft.refl _).alloc _) hHeld.2.2⟩) (fun hHeld => ?_)
      clear hK K
      try simp only [Act.put, List.setIfInBounds_toArray, List.set_cons_zero, List.set_cons_succ]
      refine one_ready (i := 8) rfl (by kernel_rfl) (by rfl) (fun K hK => ?_)
      have hPre := hHeld
      go_simp
      go_at_call 42
      refine (collect_any _ 3 3 [⟨Xh, nh, ch, col [dig x 1, [pw]]⟩, ⟨some ⟨_, 0, none⟩, 1, 1, [x.jo]⟩, ⟨Xr, nr, cr, W x k R⟩] _ (three_at (by first | rfl | simp) (Rh.out.aft hB) (row1 (by exact cell1 _ _ _)) (Rr.out.aft ((Aft.refl _).alloc _)) 22) (by simp [lists]; omega)).mono ?_
      rintro e' w9 ⟨⟨Xz, nz, cz, rfl, rz⟩, Nz⟩
      have Rz := Lib.hid rz
      clear rz
      try go_simp
      refine hK.out _ _ (⟨Aft.trans hPre.1 Nz, Aft.cell Nz hPre.2.1, Aft.cell Nz hPre.2.2⟩) (fun hHeld => ?_)
      clear hK K
      try simp only [Act.put, List.setIfInBounds_toArray, List.set_cons_zero, List.set_cons_succ]
      refine take_on (i := 9) (v := ?v5063) rfl (by kernel_rfl) (by kernel_rfl) (by kernel_rfl) (fun _ _ _ h => h) (by rfl) (by assumption) ?y5063 ?_
      case y5063 => (intro w hSw; (try dsimp only at hSw); go_simp; (try with_reducible rfl))
      try simp only [Act.put, List.setIfInBounds_toArray, List.set_cons_zero, List.set_cons_succ]
      refine wpAnyH_done (by kernel_rfl) ?_ _
      go_wp2
      go_ret
      exact ⟨⟨Xz, nz, cz, rfl, by rw [HV.out, HH.out]; exact Rz.out⟩, AWB.trans hHeld.1⟩
  · go_enter Tryd.func50, Tryd.ntmps50
    go_wp2_with fail
    refine (HG.out _).mono ?_
    rintro e w1 ⟨rfl, rfl⟩
    go_wp2
    go_quiet (fail)
    go_wp2_with fail
    refine (HM.out _ (Aft.drewN (Aft.refl _) _)).mono ?_
    rintro e w2 ⟨⟨Xd, nd, cd, rfl, rd⟩, Nd⟩
    have Rd := Lib.hid rd
    clear rd
    have Awd := Aft.trans (Aft.drewN (Aft.refl w) _) Nd
    go_wp2_with fail
    refine (collect_any _ 2 2 [⟨Xd, nd, cd, dig x 1⟩, ⟨some ⟨pb, poff + k, none⟩, 1, x.pc - k, [pw]⟩] _ (two_lls Rd.out (HO.out.aft Awd) 22) (by simp [lists]; omega)).mono ?_
    rintro e w3 ⟨⟨Xh, nh, ch, rfl, rh⟩, Nh⟩
    have Rh := Lib.hid rh
    clear rh
    have AWB := Awd.trans (((Aft.refl w2).alloc _).trans Nh)
    have f3 := AWB.cell hfn
    have j3 := AWB.cell c4
    have s3 := AWB.cell c3
    clear Nd Nh Awd
    go_wp2
    clear c0 c2 c5 c6 c7 hk1 hk2 hk3 hk4 hq1 hq2 hr1 hr2 hpz hnb hwm hsub0 hsub1 HG HM HSp HPW
    refine wp_region_held_drew (S := fun w' => Aft w3 w' ∧ w'.cell? ⟨Bw, 0, none⟩ = some (.func (.func 50) #[] #[.pointer (some ⟨Bs, 0, none⟩), .pointer (some ⟨Bw, 0, none⟩)]) ∧ w'.cell? ⟨Bs, 4, none⟩ = some (.string x.jo)) (by kernel_rfl) (⟨Below.drew (Aft.refl _), f3, j3⟩) (fun hHeld => ?_)
    refine take_on (i := 0) (v := ?v5064) rfl (by kernel_rfl) (by kernel_rfl) (by kernel_rfl) (fun _ _ _ h => h) (by rfl) (by assumption) ?y5064 ?_
    case y5064 => (intro w hSw; (try dsimp only at hSw); go_simp; (try with_reducible rfl))
    try simp only [Act.put, List.setIfInBounds_toArray, List.set_cons_zero, List.set_cons_succ]
    refine take_on (i := 1) (v := ?v5065) rfl (by kernel_rfl) (by kernel_rfl) (by kernel_rfl) (fun _ _ _ h => h) (by rfl) (by assumption) ?y5065 ?_
    case y5065 => (intro w hSw; (try dsimp only at hSw); go_simp; (try with_reducible rfl))
    try simp only [Act.put, List.setIfInBounds_toArray, List.set_cons_zero, List.set_cons_succ]
    refine take_on (i := 2) (v := ?v5066) rfl (by kernel_rfl) (by kernel_rfl) (by kernel_rfl) (fun _ _ _ h => h) (by rfl) (by assumption) ?y5066 ?_
    case y5066 => (intro w hSw; (try dsimp only at hSw); go_simp; (try with_reducible rfl))
    try simp only [Act.put, List.setIfInBounds_toArray, List.set_cons_zero, List.set_cons_succ]
    refine take_on (i := 4) (v := ?v5067) rfl (by kernel_rfl) (by kernel_rfl) (by kernel_rfl) (fun _ _ _ h => h) (by rfl) (by assumption) ?y5067 ?_
    case y5067 => (intro w hSw; (try dsimp only at hSw); go_simp; (try with_reducible rfl))
    try simp only [Act.put, List.setIfInBounds_toArray, List.set_cons_zero, List.set_cons_succ]
    refine take_on (i := 5) (v := ?v5068) rfl (by kernel_rfl) (by kernel_rfl) (by kernel_rfl) (fun _ _ _ h => h) (by rfl) (by assumption) ?y5068 ?_
    case y5068 => (intro w hSw; (try dsimp only at hSw); go_simp; (try with_reducible rfl))
    try simp only [Act.put, List.setIfInBounds_toArray, List.set_cons_zero, List.set_cons_succ]
    refine two_readyN (i := 3) (j := 6) rfl rfl (by kernel_rfl) (by rfl) (by rfl) (fun K hK => ?_) (fun K hK => ?_)
    · go_simp
      refine hK.out _ _ (⟨Aft.alloc hHeld.1 _, Aft.cell ((Aft.refl _).alloc _) hHeld.2.1, Aft.cell ((Aft.refl _).alloc _) hHeld.2.2⟩) (fun hHeld => ?_)
      clear hK K
      try simp only [Act.put, List.setIfInBounds_toArray, List.set_cons_zero, List.set_cons_succ]
      refine one_ready (i := 6) rfl (by kernel_rfl) (by rfl) (fun K hK => ?_)
      have hPre := hHeld
      go_simp
      go_at_call 50
      refine (HR.out _ (AWB.trans hPre.1)).mono ?_
      rintro e' w8 ⟨⟨Xr, nr, cr, rfl, rr⟩, Nr⟩
      have Rr := Lib.hid rr
      clear rr
      try go_simp
      refine hK.out _ _ (⟨Aft.trans hPre.1 Nr, Aft.cell Nr hPre.2.1, Aft.cell Nr hPre.2.2⟩) (fun hHeld => ?_)
      clear hK K
      try simp only [Act.put, List.setIfInBounds_toArray, List.set_cons_zero, List.set_cons_succ]
      have hB := hHeld.1
      refine one_ready (i := 7) rfl (by kernel_rfl) (by rfl) (fun K hK => ?_)
      go_simp
      refine hK.out _ _ (⟨Aft.alloc hHeld.1 _, Aft.cell ((Aft.refl _).alloc _) hHeld.2.1, Aft.cell ((Aft.refl _).alloc _) hHeld.2.2⟩) (fun hHeld => ?_)
      clear hK K
      try simp only [Act.put, List.setIfInBounds_toArray, List.set_cons_zero, List.set_cons_succ]
      refine one_ready (i := 8) rfl (by kernel_rfl) (by rfl) (fun K hK => ?_)
      have hPre := hHeld
      go_simp
      go_at_call 42
      refine (collect_any _ 3 3 [⟨Xh, nh, ch, col [dig x 1, [pw]]⟩, ⟨some ⟨_, 0, none⟩, 1, 1, [x.jo]⟩, ⟨Xr, nr, cr, W x k R⟩] _ (three_at (by first | rfl | simp) (Rh.out.aft hB) (row1 (by first | exact Aft.cell Nr (cell1 _ _ _) | exact Aft.cell (Aft.trans (Below.drew (Aft.refl _)) Nr) (cell1 _ _ _))) Rr.out 22) (by simp [lists]; omega)).mono ?_
      rintro e' w9 ⟨⟨Xz, nz, cz, rfl, rz⟩, Nz⟩
      have Rz := Lib.hid rz
      clear rz
      try go_simp
      refine hK.out _ _ (⟨Aft.trans hPre.1 Nz, Aft.cell Nz hPre.2.1, Aft.cell Nz hPre.2.2⟩) (fun hHeld => ?_)
      clear hK K
      try simp only [Act.put, List.setIfInBounds_toArray, List.set_cons_zero, List.set_cons_succ]
      refine take_on (i := 9) (v := ?v5069) rfl (by kernel_rfl) (by kernel_rfl) (by kernel_rfl) (fun _ _ _ h => h) (by rfl) (by assumption) ?y5069 ?_
      case y5069 => (intro w hSw; (try dsimp only at hSw); go_simp; (try with_reducible rfl))
      try simp only [Act.put, List.setIfInBounds_toArray, List.set_cons_zero, List.set_cons_succ]
      refine wpAnyH_done (by kernel_rfl) ?_ _
      go_wp2
      go_ret
      exact ⟨⟨Xz, nz, cz, rfl, by rw [HV.out, HH.out]; exact Rz.out⟩, AWB.trans hHeld.1⟩
    · have hPre := hHeld
      go_simp
      go_at_call 50
      refine (HR.out _ (AWB.trans hPre.1)).mono ?_
      rintro e' w8 ⟨⟨Xr, nr, cr, rfl, rr⟩, Nr⟩
      have Rr := Lib.hid rr
      clear rr
      try go_simp
      refine hK.out _ _ (⟨Aft.trans hPre.1 Nr, Aft.cell Nr hPre.2.1, Aft.cell Nr hPre.2.2⟩) (fun hHeld => ?_)
      clear hK K
      try simp only [Act.put, List.setIfInBounds_toArray, List.set_cons_zero, List.set_cons_succ]
      refine one_ready (i := 3) rfl (by kernel_rfl) (by rfl) (fun K hK => ?_)
      go_simp
      refine hK.out _ _ (⟨Aft.alloc hHeld.1 _, Aft.cell ((Aft.refl _).alloc _) hHeld.2.1, Aft.cell ((Aft.refl _).alloc _) hHeld.2.2⟩) (fun hHeld => ?_)
      clear hK K
      try simp only [Act.put, List.setIfInBounds_toArray, List.set_cons_zero, List.set_cons_succ]
      have hB := hHeld.1
      refine one_ready (i := 7) rfl (by kernel_rfl) (by rfl) (fun K hK => ?_)
      go_simp
      refine hK.out _ _ (⟨Aft.alloc hHeld.1 _, Aft.cell ((Aft.refl _).alloc _) hHeld.2.1, Aft.cell ((Aft.refl _).alloc _) hHeld.2.2⟩) (fun hHeld => ?_)
      clear hK K
      try simp only [Act.put, List.setIfInBounds_toArray, List.set_cons_zero, List.set_cons_succ]
      refine one_ready (i := 8) rfl (by kernel_rfl) (by rfl) (fun K hK => ?_)
      have hPre := hHeld
      go_simp
      go_at_call 42
      refine (collect_any _ 3 3 [⟨Xh, nh, ch, col [dig x 1, [pw]]⟩, ⟨some ⟨_, 0, none⟩, 1, 1, [x.jo]⟩, ⟨Xr, nr, cr, W x k R⟩] _ (three_at (by first | rfl | simp) (Rh.out.aft hB) (row1 (by exact cell1 _ _ _)) (Rr.out.aft ((Aft.refl _).alloc _)) 22) (by simp [lists]; omega)).mono ?_
      rintro e' w9 ⟨⟨Xz, nz, cz, rfl, rz⟩, Nz⟩
      have Rz := Lib.hid rz
      clear rz
      try go_simp
      refine hK.out _ _ (⟨Aft.trans hPre.1 Nz, Aft.cell Nz hPre.2.1, Aft.cell Nz hPre.2.2⟩) (fun hHeld => ?_)
      clear hK K
      try simp only [Act.put, List.setIfInBounds_toArray, List.set_cons_zero, List.set_cons_succ]
      refine take_on (i := 9) (v := ?v5070) rfl (by kernel_rfl) (by kernel_rfl) (by kernel_rfl) (fun _ _ _ h => h) (by rfl) (by assumption) ?y5070 ?_
      case y5070 => (intro w hSw; (try dsimp only at hSw); go_simp; (try with_reducible rfl))
      try simp only [Act.put, List.setIfInBounds_toArray, List.set_cons_zero, List.set_cons_succ]
      refine wpAnyH_done (by kernel_rfl) ?_ _
      go_wp2
      go_ret
      exact ⟨⟨Xz, nz, cz, rfl, by rw [HV.out, HH.out]; exact Rz.out⟩, AWB.trans hHeld.1⟩
end Go.Proofs.YtdehghmpfkhljaaDoor
