/-
  The closure of speller where a word is subtracted. Conditions: the system is valid and lies where the closure looks.
-/
import Derived.Test.YtdehghmpfkhljaaDoorNumLow
namespace Go.Proofs.YtdehghmpfkhljaaDoor
open Go.RowKit
open NumPlain

set_option maxRecDepth 100000 in
set_option maxHeartbeats 1600000 in
theorem subw_any (x : Nm) (hx : Ok x) (k PK n : Nat) (hk : k ≤ 2) (hPK : bs x ^ (k + 1) = PK) (hge : ¬ n < bs x ^ (k + 1)) (hhi : n < bs x ^ (k + 2)) (hss : 0 < x.sub ∧ PK ≤ n % PK + x.sub.toNat ∧ n / PK + 1 < bs x) (Bs Bw : Nat) (w : World) (h : Spl w Bs Bw x) :
    Calls Tryd.prog 50 #[.int .i64 (n : Int), .pointer (some ⟨Bs, 0, none⟩), .pointer (some ⟨Bw, 0, none⟩)] w (SlPost w (W x (k + 1) n)) := by
  have hbs := hx.bs
  have hbase : x.base = (bs x : Int) := by unfold bs; rcases hx.base with h | h <;> rw [h] <;> rfl
  have hpn := hx.pn
  have hsub0 := hx.sub0
  have hsub1 := hx.sub1
  have hpc := h.wds.rp.le
  have hpm := h.wds.rp.cmax
  have c0 := h.box.c0
  have c2 := h.box.c2
  have c3 := h.box.c3
  have c4 := h.box.c4
  have c5 := h.box.c5
  have c6 := h.box.c6
  have c7 := h.box.c7
  have hfn := h.fn
  rw [hbase] at c0 hsub1
  obtain ⟨pb, poff, pw, hPA, hpw, _⟩ := h.wds.rp.at_ (show k < x.pn by omega)
  have hrp := h.wds.rp
  rw [hPA] at c2 hrp
  have hone := Rw.one hrp hpw
  have HO := Lib.hid hone
  have HPW := Lib.hid (show x.ps.getD k ByteArray.empty = pw by simp [List.getD, hpw])
  have hk1 : (k : Int) + 1 ≤ (x.pn : Int) := by omega
  have hk2 : ¬ x.pc = k := by omega
  have hk3 : (k : Int) ≤ (x.pc : Int) := by omega
  have hk4 : (k : Int) + 1 ≤ (x.pc : Int) := by omega
  have hP1 := pow_bounds hbs (show k + 1 ≤ 3 by omega)
  have hPb : bs x ≤ PK := by have := pow_le hbs (show 1 ≤ k + 1 by omega); rw [Nat.pow_one, hPK] at this; exact this
  have hPs : bs x ^ (k + 2) = bs x * PK := by rw [← hPK, Nat.pow_succ (n := bs x) (m := k + 1), Nat.mul_comm]
  rw [hPK] at hP1
  have hcf := enterW
  have HSp := Lib.hid h
  have hlo : PK ≤ n := by rw [← hPK]; omega
  have hQR := Nat.div_add_mod n PK
  have hRlt := Nat.mod_lt n (show 0 < PK by omega)
  have hQ1 : 1 ≤ n / PK := (Nat.le_div_iff_mul_le (by omega)).2 (by omega)
  have hQB : n / PK < bs x := by rw [Nat.div_lt_iff_lt_mul (by omega)]; rw [hPs] at hhi; exact hhi
  have HG := Lib.hid (fun w0 => gp_any (bs x) k n PK w0 hPK hbs hk (by rw [hPK]; exact hlo) hhi)
  have hw0 := W_high hge
  rw [hPK] at hw0
  have hq1 : (n : Int) / (PK : Int) = ((n / PK : Nat) : Int) := by simp
  have hr1 : (n : Int) % (PK : Int) = ((n % PK : Nat) : Int) := by simp
  have hq2 : (n : Int).tdiv (PK : Int) = ((n / PK : Nat) : Int) := by rw [Int.tdiv_eq_ediv_of_nonneg (by omega)]; exact hq1
  have hr2 : (n : Int).tmod (PK : Int) = ((n % PK : Nat) : Int) := by rw [Int.tmod_eq_emod_of_nonneg (by omega)]; exact hr1
  have hpz : ¬ (PK : Int) = 0 := by omega
  have hnb : ¬ (n : Int) < (bs x : Int) := by omega
  rw [if_pos hss] at hw0
  obtain ⟨hS, hS2, hS3⟩ := hss
  have hrest : (PK : Int) - x.sub ≤ ((n % PK : Nat) : Int) := by omega
  have hqb : ((n / PK : Nat) : Int) + 1 < (bs x : Int) := by omega
  have hmb : PK - n % PK < bs x := by omega
  have hmi : (PK : Int) - ((n % PK : Nat) : Int) = ((PK - n % PK : Nat) : Int) := by omega
  have HM := Lib.hid (fun w0 (a : Aft w w0) => dig_any x hx (PK - n % PK) hmb Bs Bw w0 (h.aft a))
  have HR := Lib.hid (fun w0 (a : Aft w w0) => mul_any x hx k (n / PK + 1) PK ((n / PK + 1) * PK) hk hPK (by omega) hS3 rfl Bs Bw w0 (h.aft a))
  have hmul : (((n / PK : Nat) : Int) + 1) * (PK : Int) = (((n / PK + 1) * PK : Nat) : Int) := by simp
  have hmulb : (n / PK + 1) * PK ≤ 160000 := by have := Nat.mul_le_mul (show n / PK + 1 ≤ 20 by omega) hP1.2; omega
  have hdl := dig_len x (PK - n % PK)
  have hcl : (col [headW x (n / PK + 1) k]).length ≤ 2 := by
    have h1 := col_len [headW x (n / PK + 1) k]
    have h2 := head_len x (n / PK + 1) k
    simp only [List.flatten_cons, List.flatten_nil, List.append_nil] at h1
    omega
  have hwm : IntKind.i64.wrap ((n / PK : Nat) : Int) = ((n / PK : Nat) : Int) := wrap_small _ (by omega) (by omega)
  have HV := Lib.hid hw0
  have hwD : IntKind.i64.wrap ((PK - n % PK : Nat) : Int) = ((PK - n % PK : Nat) : Int) := wrap_small _ (by omega) (by omega)
  have hwN : IntKind.i64.wrap (((n / PK + 1) * PK : Nat) : Int) = (((n / PK + 1) * PK : Nat) : Int) := wrap_small _ (by omega) (by omega)
  have hw1 : IntKind.i64.wrap (((n / PK : Nat) : Int) + 1) = ((n / PK : Nat) : Int) + 1 := wrap_small _ (by omega) (by omega)
  clear hx h hPK hPs hbase hrp hpw hPA hone hbs hge hhi hQR hw0
  generalize (n / PK + 1) * PK = N2 at *
  generalize PK - n % PK = D at *
  generalize n % PK = R at *
  generalize col [headW x (n / PK + 1) k] = HW at *
  generalize n / PK = m at *
  generalize bs x = B at *
  generalize W x (k + 1) n = RES at *
  go_enter Tryd.func50, Tryd.ntmps50
  go_wp2_with fail
  refine (HG.out _).mono ?_
  rintro e w1 ⟨rfl, rfl⟩
  go_wp2
  go_quiet (fail)
  go_wp2
  have AWB := Aft.refl w
  refine wp_region_held_drew (S := fun w' => Aft w w' ∧ w'.cell? ⟨Bw, 0, none⟩ = some (.func (.func 50) #[] #[.pointer (some ⟨Bs, 0, none⟩), .pointer (some ⟨Bw, 0, none⟩)]) ∧ w'.cell? ⟨Bs, 6, none⟩ = some (.string x.le)) (by kernel_rfl) (⟨Below.drew (Aft.drewN (Aft.refl w) _), Aft.cell (Below.drew (Aft.drewN (Aft.refl w) _)) hfn, Aft.cell (Below.drew (Aft.drewN (Aft.refl w) _)) c6⟩) (fun hHeld => ?_)
  refine take_on (i := 0) (v := ?v5001) rfl (by kernel_rfl) (by kernel_rfl) (by kernel_rfl) (fun _ _ _ h => h) (by rfl) (by assumption) ?y5001 ?_
  case y5001 => (intro w hSw; (try dsimp only at hSw); go_simp; (try with_reducible rfl))
  try simp only [Act.put, List.setIfInBounds_toArray, List.set_cons_zero, List.set_cons_succ]
  refine take_on (i := 1) (v := ?v5002) rfl (by kernel_rfl) (by kernel_rfl) (by kernel_rfl) (fun _ _ _ h => h) (by rfl) (by assumption) ?y5002 ?_
  case y5002 => (intro w hSw; (try dsimp only at hSw); go_simp; (try with_reducible rfl))
  try simp only [Act.put, List.setIfInBounds_toArray, List.set_cons_zero, List.set_cons_succ]
  refine take_on (i := 2) (v := ?v5003) rfl (by kernel_rfl) (by kernel_rfl) (by kernel_rfl) (fun _ _ _ h => h) (by rfl) (by assumption) ?y5003 ?_
  case y5003 => (intro w hSw; (try dsimp only at hSw); go_simp; (try with_reducible rfl))
  try simp only [Act.put, List.setIfInBounds_toArray, List.set_cons_zero, List.set_cons_succ]
  refine take_on (i := 3) (v := ?v5004) rfl (by kernel_rfl) (by kernel_rfl) (by kernel_rfl) (fun _ _ _ h => h) (by rfl) (by assumption) ?y5004 ?_
  case y5004 => (intro w hSw; (try dsimp only at hSw); go_simp; (try with_reducible rfl))
  try simp only [Act.put, List.setIfInBounds_toArray, List.set_cons_zero, List.set_cons_succ]
  refine take_on (i := 5) (v := ?v5005) rfl (by kernel_rfl) (by kernel_rfl) (by kernel_rfl) (fun _ _ _ h => h) (by rfl) (by assumption) ?y5005 ?_
  case y5005 => (intro w hSw; (try dsimp only at hSw); go_simp; (try with_reducible rfl))
  try simp only [Act.put, List.setIfInBounds_toArray, List.set_cons_zero, List.set_cons_succ]
  refine take_on (i := 6) (v := ?v5006) rfl (by kernel_rfl) (by kernel_rfl) (by kernel_rfl) (fun _ _ _ h => h) (by rfl) (by assumption) ?y5006 ?_
  case y5006 => (intro w hSw; (try dsimp only at hSw); go_simp; (try with_reducible rfl))
  try simp only [Act.put, List.setIfInBounds_toArray, List.set_cons_zero, List.set_cons_succ]
  refine take_on (i := 8) (v := ?v5007) rfl (by kernel_rfl) (by kernel_rfl) (by kernel_rfl) (fun _ _ _ h => h) (by rfl) (by assumption) ?y5007 ?_
  case y5007 => (intro w hSw; (try dsimp only at hSw); go_simp; (try with_reducible rfl))
  try simp only [Act.put, List.setIfInBounds_toArray, List.set_cons_zero, List.set_cons_succ]
  refine take_on (i := 9) (v := ?v5008) rfl (by kernel_rfl) (by kernel_rfl) (by kernel_rfl) (fun _ _ _ h => h) (by rfl) (by assumption) ?y5008 ?_
  case y5008 => (intro w hSw; (try dsimp only at hSw); go_simp; (try with_reducible rfl))
  try simp only [Act.put, List.setIfInBounds_toArray, List.set_cons_zero, List.set_cons_succ]
  refine take_on (i := 10) (v := ?v5009) rfl (by kernel_rfl) (by kernel_rfl) (by kernel_rfl) (fun _ _ _ h => h) (by rfl) (by assumption) ?y5009 ?_
  case y5009 => (intro w hSw; (try dsimp only at hSw); go_simp; (try with_reducible rfl))
  try simp only [Act.put, List.setIfInBounds_toArray, List.set_cons_zero, List.set_cons_succ]
  refine take_on (i := 11) (v := ?v5010) rfl (by kernel_rfl) (by kernel_rfl) (by kernel_rfl) (fun _ _ _ h => h) (by rfl) (by assumption) ?y5010 ?_
  case y5010 => (intro w hSw; (try dsimp only at hSw); go_simp; (try with_reducible rfl))
  try simp only [Act.put, List.setIfInBounds_toArray, List.set_cons_zero, List.set_cons_succ]
  refine take_on (i := 12) (v := ?v5011) rfl (by kernel_rfl) (by kernel_rfl) (by kernel_rfl) (fun _ _ _ h => h) (by rfl) (by assumption) ?y5011 ?_
  case y5011 => (intro w hSw; (try dsimp only at hSw); go_simp; (try with_reducible rfl))
  try simp only [Act.put, List.setIfInBounds_toArray, List.set_cons_zero, List.set_cons_succ]
  refine two_readyN (i := 4) (j := 7) rfl rfl (by kernel_rfl) (by rfl) (by rfl) (fun K hK => ?_) (fun K hK => ?_)
  · have hPre := hHeld
    go_simp
    go_at_call 50
    refine (HM.out _ (AWB.trans hPre.1)).mono ?_
    rintro e' w7 ⟨⟨Xd, nd, cd, rfl, rd⟩, Nd⟩
    have Rd := Lib.hid rd
    clear rd
    try go_simp
    refine hK.out _ _ (⟨Aft.trans hPre.1 Nd, Aft.cell Nd hPre.2.1, Aft.cell Nd hPre.2.2⟩) (fun hHeld => ?_)
    clear hK K
    try simp only [Act.put, List.setIfInBounds_toArray, List.set_cons_zero, List.set_cons_succ]
    refine two_readyN (i := 7) (j := 13) rfl rfl (by kernel_rfl) (by rfl) (by rfl) (fun K hK => ?_) (fun K hK => ?_)
    · go_simp
      refine hK.out _ _ (⟨Aft.alloc hHeld.1 _, Aft.cell ((Aft.refl _).alloc _) hHeld.2.1, Aft.cell ((Aft.refl _).alloc _) hHeld.2.2⟩) (fun hHeld => ?_)
      clear hK K
      try simp only [Act.put, List.setIfInBounds_toArray, List.set_cons_zero, List.set_cons_succ]
      refine one_ready (i := 13) rfl (by kernel_rfl) (by rfl) (fun K hK => ?_)
      have hPre := hHeld
      go_simp
      go_at_call 50
      refine (HR.out _ (AWB.trans hPre.1)).mono ?_
      rintro e' w8 ⟨⟨Xr, nr, cr, rfl, rr⟩, Nr⟩
      have Rr := Lib.hid rr
      clear rr
      try go_simp
      refine hK.out _ _ (⟨Aft.trans hPre.1 Nr, Aft.cell Nr hPre.2.1, Aft.cell Nr hPre.2.2⟩) (fun hHeld => ?_)
      clear hK K
      try simp only [Act.put, List.setIfInBounds_toArray, List.set_cons_zero, List.set_cons_succ]
      have hB := hHeld.1
      refine one_ready (i := 14) rfl (by kernel_rfl) (by rfl) (fun K hK => ?_)
      go_simp
      refine hK.out _ _ (⟨Aft.alloc hHeld.1 _, Aft.cell ((Aft.refl _).alloc _) hHeld.2.1, Aft.cell ((Aft.refl _).alloc _) hHeld.2.2⟩) (fun hHeld => ?_)
      clear hK K
      try simp only [Act.put, List.setIfInBounds_toArray, List.set_cons_zero, List.set_cons_succ]
      refine one_ready (i := 15) rfl (by kernel_rfl) (by rfl) (fun K hK => ?_)
      have hPre := hHeld
      go_simp
      go_at_call 42
      refine (collect_any _ 3 3 [⟨Xd, nd, cd, dig x D⟩, ⟨some ⟨_, 0, none⟩, 1, 1, [x.le]⟩, ⟨Xr, nr, cr, HW⟩] _ (three_at (by first | rfl | simp) (Rd.out.aft (Aft.trans ((Aft.refl _).alloc _) Nr)) (row1 (by first | exact Aft.cell Nr (cell1 _ _ _))) Rr.out 22) (by simp [lists]; omega)).mono ?_
      rintro e' w9 ⟨⟨Xz, nz, cz, rfl, rz⟩, Nz⟩
      have Rz := Lib.hid rz
      clear rz
      try go_simp
      refine hK.out _ _ (⟨Aft.trans hPre.1 Nz, Aft.cell Nz hPre.2.1, Aft.cell Nz hPre.2.2⟩) (fun hHeld => ?_)
      clear hK K
      try simp only [Act.put, List.setIfInBounds_toArray, List.set_cons_zero, List.set_cons_succ]
      refine take_on (i := 16) (v := ?v5012) rfl (by kernel_rfl) (by kernel_rfl) (by kernel_rfl) (fun _ _ _ h => h) (by rfl) (by assumption) ?y5012 ?_
      case y5012 => (intro w hSw; (try dsimp only at hSw); go_simp; (try with_reducible rfl))
      try simp only [Act.put, List.setIfInBounds_toArray, List.set_cons_zero, List.set_cons_succ]
      refine wpAnyH_done (by kernel_rfl) ?_ _
      go_wp2
      go_ret
      exact ⟨⟨Xz, nz, cz, rfl, by rw [HV.out]; exact Rz.out⟩, AWB.trans hHeld.1⟩
    · have hPre := hHeld
      go_simp
      go_at_call 50
      refine (HR.out _ (AWB.trans hPre.1)).mono ?_
      rintro e' w8 ⟨⟨Xr, nr, cr, rfl, rr⟩, Nr⟩
      have Rr := Lib.hid rr
      clear rr
      try go_simp
      refine hK.out _ _ (⟨Aft.trans hPre.1 Nr, Aft.cell Nr hPre.2.1, Aft.cell Nr hPre.2.2⟩) (fun hHeld => ?_)
      clear hK K
      try simp only [Act.put, List.setIfInBounds_toArray, List.set_cons_zero, List.set_cons_succ]
      refine one_ready (i := 7) rfl (by kernel_rfl) (by rfl) (fun K hK => ?_)
      go_simp
      refine hK.out _ _ (⟨Aft.alloc hHeld.1 _, Aft.cell ((Aft.refl _).alloc _) hHeld.2.1, Aft.cell ((Aft.refl _).alloc _) hHeld.2.2⟩) (fun hHeld => ?_)
      clear hK K
      try simp only [Act.put, List.setIfInBounds_toArray, List.set_cons_zero, List.set_cons_succ]
      have hB := hHeld.1
      refine one_ready (i := 14) rfl (by kernel_rfl) (by rfl) (fun K hK => ?_)
      go_simp
      refine hK.out _ _ (⟨Aft.alloc hHeld.1 _, Aft.cell ((Aft.refl _).alloc _) hHeld.2.1, Aft.cell ((Aft.refl _).alloc _) hHeld.2.2⟩) (fun hHeld => ?_)
      clear hK K
      try simp only [Act.put, List.setIfInBounds_toArray, List.set_cons_zero, List.set_cons_succ]
      refine one_ready (i := 15) rfl (by kernel_rfl) (by rfl) (fun K hK => ?_)
      have hPre := hHeld
      go_simp
      go_at_call 42
      refine (collect_any _ 3 3 [⟨Xd, nd, cd, dig x D⟩, ⟨some ⟨_, 0, none⟩, 1, 1, [x.le]⟩, ⟨Xr, nr, cr, HW⟩] _ (three_at (by first | rfl | simp) (Rd.out.aft (Aft.trans Nr ((Aft.refl _).alloc _))) (row1 (by exact cell1 _ _ _)) (Rr.out.aft ((Aft.refl _).alloc _)) 22) (by simp [lists]; omega)).mono ?_
      rintro e' w9 ⟨⟨Xz, nz, cz, rfl, rz⟩, Nz⟩
      have Rz := Lib.hid rz
      clear rz
      try go_simp
      refine hK.out _ _ (⟨Aft.trans hPre.1 Nz, Aft.cell Nz hPre.2.1, Aft.cell Nz hPre.2.2⟩) (fun hHeld => ?_)
      clear hK K
      try simp only [Act.put, List.setIfInBounds_toArray, List.set_cons_zero, List.set_cons_succ]
      refine take_on (i := 16) (v := ?v5013) rfl (by kernel_rfl) (by kernel_rfl) (by kernel_rfl) (fun _ _ _ h => h) (by rfl) (by assumption) ?y5013 ?_
      case y5013 => (intro w hSw; (try dsimp only at hSw); go_simp; (try with_reducible rfl))
      try simp only [Act.put, List.setIfInBounds_toArray, List.set_cons_zero, List.set_cons_succ]
      refine wpAnyH_done (by kernel_rfl) ?_ _
      go_wp2
      go_ret
      exact ⟨⟨Xz, nz, cz, rfl, by rw [HV.out]; exact Rz.out⟩, AWB.trans hHeld.1⟩
  · go_simp
    refine hK.out _ _ (⟨Aft.alloc hHeld.1 _, Aft.cell ((Aft.refl _).alloc _) hHeld.2.1, Aft.cell ((Aft.refl _).alloc _) hHeld.2.2⟩) (fun hHeld => ?_)
    clear hK K
    try simp only [Act.put, List.setIfInBounds_toArray, List.set_cons_zero, List.set_cons_succ]
    refine one_ready (i := 4) rfl (by kernel_rfl) (by rfl) (fun K hK => ?_)
    have hPre := hHeld
    go_simp
    go_at_call 50
    refine (HM.out _ (AWB.trans hPre.1)).mono ?_
    rintro e' w7 ⟨⟨Xd, nd, cd, rfl, rd⟩, Nd⟩
    have Rd := Lib.hid rd
    clear rd
    try go_simp
    refine hK.out _ _ (⟨Aft.trans hPre.1 Nd, Aft.cell Nd hPre.2.1, Aft.cell Nd hPre.2.2⟩) (fun hHeld => ?_)
    clear hK K
    try simp only [Act.put, List.setIfInBounds_toArray, List.set_cons_zero, List.set_cons_succ]
    refine one_ready (i := 13) rfl (by kernel_rfl) (by rfl) (fun K hK => ?_)
    have hPre := hHeld
    go_simp
    go_at_call 50
    refine (HR.out _ (AWB.trans hPre.1)).mono ?_
    rintro e' w8 ⟨⟨Xr, nr, cr, rfl, rr⟩, Nr⟩
    have Rr := Lib.hid rr
    clear rr
    try go_simp
    refine hK.out _ _ (⟨Aft.trans hPre.1 Nr, Aft.cell Nr hPre.2.1, Aft.cell Nr hPre.2.2⟩) (fun hHeld => ?_)
    clear hK K
    try simp only [Act.put, List.setIfInBounds_toArray, List.set_cons_zero, List.set_cons_succ]
    have hB := hHeld.1
    refine one_ready (i := 14) rfl (by kernel_rfl) (by rfl) (fun K hK => ?_)
    go_simp
    refine hK.out _ _ (⟨Aft.alloc hHeld.1 _, Aft.cell ((Aft.refl _).alloc _) hHeld.2.1, Aft.cell ((Aft.refl _).alloc _) hHeld.2.2⟩) (fun hHeld => ?_)
    clear hK K
    try simp only [Act.put, List.setIfInBounds_toArray, List.set_cons_zero, List.set_cons_succ]
    refine one_ready (i := 15) rfl (by kernel_rfl) (by rfl) (fun K hK => ?_)
    have hPre := hHeld
    go_simp
    go_at_call 42
    refine (collect_any _ 3 3 [⟨Xd, nd, cd, dig x D⟩, ⟨some ⟨_, 0, none⟩, 1, 1, [x.le]⟩, ⟨Xr, nr, cr, HW⟩] _ (three_at (by first | rfl | simp) (Rd.out.aft Nr) (row1 (by first | exact Aft.cell (Aft.trans Nd Nr) (cell1 _ _ _) | exact Aft.cell (Aft.trans (Below.drew (Aft.refl _)) (Aft.trans Nd Nr)) (cell1 _ _ _) | exact Aft.cell (Aft.trans (Below.drew (Aft.drewN (Aft.refl _) _)) (Aft.trans Nd Nr)) (cell1 _ _ _))) Rr.out 22) (by simp [lists]; omega)).mono ?_
    rintro e' w9 ⟨⟨Xz, nz, cz, rfl, rz⟩, Nz⟩
    have Rz := Lib.hid rz
    clear rz
    try go_simp
    refine hK.out _ _ (⟨Aft.trans hPre.1 Nz, Aft.cell Nz hPre.2.1, Aft.cell Nz hPre.2.2⟩) (fun hHeld => ?_)
    clear hK K
    try simp only [Act.put, List.setIfInBounds_toArray, List.set_cons_zero, List.set_cons_succ]
    refine take_on (i := 16) (v := ?v5014) rfl (by kernel_rfl) (by kernel_rfl) (by kernel_rfl) (fun _ _ _ h => h) (by rfl) (by assumption) ?y5014 ?_
    case y5014 => (intro w hSw; (try dsimp only at hSw); go_simp; (try with_reducible rfl))
    try simp only [Act.put, List.setIfInBounds_toArray, List.set_cons_zero, List.set_cons_succ]
    refine wpAnyH_done (by kernel_rfl) ?_ _
    go_wp2
    go_ret
    exact ⟨⟨Xz, nz, cz, rfl, by rw [HV.out]; exact Rz.out⟩, AWB.trans hHeld.1⟩
end Go.Proofs.YtdehghmpfkhljaaDoor
