/-
  The date of a day: Date of the program and of the reference. Conditions: 'Tab'.
-/
import Derived.Test.YtdeojpmimhagjabDoorLunProg
import Derived.Test.YtdeojpmimhagjabDoorLunIdx
namespace Go.Proofs.YtdeojpmimhagjabDoor
open Go.RowKit
open LunPlain

theorem Tab.grown {w w' : World} {p : Nat} (h : Tab w) (k : w.grownBy w' (some p)) (hp : 0 ≠ p) : Tab w' :=
  fun i hi => k.cell (h i hi) (fun q => hp (Option.some.inj q))
theorem enterClo (args : Array Value) (w : World) : (callFunc 37 args).run Tryd.prog w = .ok (.enter 37 args) w := by go_simp
theorem ms_ne {w : World} {A : Option Addr} {n c : Nat} {y : Int} {b : Bool} {p : Nat} {r : Int} (h : Ms w A n c y b) (hn : 0 < n) (hb : BoxI w p r) : ∀ bl off, A = some ⟨bl, off, none⟩ → bl ≠ p := by
  intro bl off e q
  subst q
  obtain ⟨bl', off', e', _, h1, _⟩ := h.cells 0 hn
  rw [e] at e'
  obtain ⟨rfl, rfl⟩ : bl = bl' ∧ off = off' := by simpa using e'
  have h' : w.heap[bl]? = _ := hb
  simp [World.cell?, h'] at h1
theorem md_ent {y : Int} (hy : 0 ≤ y) {j : Nat} (hj : (j : Int) < nm (leapB y)) : mdV 2 y (mo (leapB y) j) (ml (leapB y) j) = md (mo (leapB y) j) (ml (leapB y) j) := mdV_in ⟨hy, (mo_in (by omega) hj).1⟩

set_option maxRecDepth 100000 in
set_option maxHeartbeats 1600000 in
theorem index_any (A : Option Addr) (n c : Nat) (y : Int) (p : Nat) (r0 : Int) (w : World) (hm : Ms w A n c y (leapB y)) (hn : n = nmN (leapB y)) (hy : 0 ≤ y) (ht : Tab w) (hp : 0 ≠ p) (hbox : BoxI w p r0) (h0 : 0 ≤ r0) (h1 : r0 < yd y) :
    Calls Tryd.prog 36 #[.slice A n c, .func (.func 37) #[] #[.pointer (some ⟨p, 0, none⟩)]] w (fun e w' => ∃ k : Nat, e = .returned (.int .i64 (k : Int)) ∧ k < n ∧ 0 ≤ r0 - ck (leapB y) k ∧ r0 - ck (leapB y) k < md (mo (leapB y) k) (ml (leapB y) k) ∧ w.grownBy w' (some p) ∧ BoxI w' p (r0 - ck (leapB y) k)) := by
  have hcf := enterClo
  have hnb : n ≤ 13 ∧ (n : Int) = nm (leapB y) := by
    rw [hn, nmN_nm]
    refine ⟨?_, rfl⟩
    unfold nmN; split <;> omega
  have hne := ms_ne hm (by have := nm_bd (leapB y); omega) hbox
  have HNE := Lib.hid hne
  have HM := Lib.hid hm
  have HT := Lib.hid ht
  have hcy := ck_year hy
  have HCY := Lib.hid hcy
  have HZ := Lib.hid (ck_zero (leapB y))
  have HE := Lib.hid (fun (j : Nat) hj => md_ent hy (j := j) hj)
  have HS := Lib.hid (fun (j : Nat) (hj : (j : Int) < nm (leapB y)) => ck_succ (leapB y) (k := (j : Int)) (by omega) hj)
  have HBX := Lib.hid hbox
  have hle := hm.le
  have hcm := hm.cmax
  obtain ⟨hn13, hnn⟩ := hnb
  have HNN := Lib.hid hnn
  have hyd := yd_bd0 y
  clear hn hnn hne hm ht hcy hbox
  go_enter Tryd.func36, Tryd.ntmps36
  go_wp2
  go_loopw [8] (fun i wr => ∃ j : Nat, j ≤ n ∧ i = .int .i64 (j : Int) ∧ 0 ≤ r0 - ck (leapB y) j ∧ w.grownBy wr (some p) ∧ BoxI wr p (r0 - ck (leapB y) j)) (fun i _ => (n - (intOf i).toNat))
  case atStart => exact ⟨0, Nat.zero_le _, rfl, by rw [show ((0 : Nat) : Int) = 0 from rfl, HZ.out]; omega, World.grownBy.refl _ _, by rw [show ((0 : Nat) : Int) = 0 from rfl, HZ.out, Int.sub_zero]; exact HBX.out⟩
  case round =>
    obtain ⟨j, hj, rfl, hr, hg, hbx⟩ := hrel
    by_cases hlt : j < n
    · obtain ⟨bl, off, rfl, d0, d1, d2, d3, d4⟩ := (HM.out.grown hg HNE.out).cells j hlt
      have hjn : (j : Int) < nm (leapB y) := by have := HNN.out; omega
      have hji : (j : Int) < (n : Int) := by omega
      have he := HE.out j hjn
      have HS1 := Lib.hid (HS.out j hjn)
      have hck := ck_bd (leapB y) (k := (j : Int)) (by omega) (by omega)
      have hmb := md_bd (mo (leapB y) j) (ml (leapB y) j)
      have HTT := Lib.hid (HT.out.grown hg hp)
      by_cases hc : r0 - ck (leapB y) j < md (mo (leapB y) j) (ml (leapB y) j)
      · have hcl := clos_lt 2 y (mo (leapB y) j) 1 (ml (leapB y) j) p (r0 - ck (leapB y) j) wr HTT.out hbx (by rw [he]; exact hc)
        have HCL := Lib.hid hcl
        have HC := Lib.hid hc
        have HR := Lib.hid hr
        have HG := Lib.hid hg
        have HBB := Lib.hid hbx
        clear hcl he hc hr hg hbx
        go_wp2_with fail
        refine HCL.out.mono ?_
        rintro e w1 ⟨rfl, N1⟩
        go_wp2
        go_ret
        exact ⟨j, rfl, hlt, HR.out, HC.out, HG.out.trans (N1.grownBy _), HBB.out.aft N1⟩
      · have hcl := clos_ge 2 y (mo (leapB y) j) 1 (ml (leapB y) j) p (r0 - ck (leapB y) j) wr HTT.out hbx (by rw [he]; omega) (by omega)
        rw [he] at hcl
        have HCL := Lib.hid hcl
        have HG := Lib.hid hg
        have hr2 : 0 ≤ r0 - ck (leapB y) ((j : Int) + 1) := by rw [HS1.out]; omega
        have he2 : r0 - ck (leapB y) j - md (mo (leapB y) j) (ml (leapB y) j) = r0 - ck (leapB y) ((j : Int) + 1) := by rw [HS1.out]; omega
        rw [he2] at HCL
        have HR2 := Lib.hid hr2
        clear hcl he hc hr hg hbx hr2 he2
        go_wp2_with fail
        refine HCL.out.mono ?_
        rintro e w1 ⟨rfl, N1, N2⟩
        have HG1 := Lib.hid (HG.out.trans N1)
        have HB1 := Lib.hid N2
        clear N1 N2
        go_wp2
        go_roundw
        case rel => exact ⟨j + 1, by omega, by go_num, by rw [show ((j + 1 : Nat) : Int) = (j : Int) + 1 by omega]; exact HR2.out, HG1.out, by rw [show ((j + 1 : Nat) : Int) = (j : Int) + 1 by omega]; exact HB1.out⟩
        case measure => simp [intOf]; omega
    · obtain rfl : j = n := by omega
      have := HNN.out
      have := HCY.out
      rw [HNN.out, HCY.out] at hr
      omega

/-- The error of a number as a day. -/
def errV (n : Int) : Int := if 0 ≤ n ∧ n ≤ 999999 then 0 else 1
theorem err_in {n : Int} (h0 : 0 ≤ n) (h : n ≤ 999999) : errV n = 0 := if_pos ⟨h0, h⟩
theorem err_out {n : Int} (h : ¬ (0 ≤ n ∧ n ≤ 999999)) : errV n = 1 := if_neg h
/-- What Date says of the number n. -/
def LunIs (n c y m d : Int) (l : Bool) : Prop := (0 ≤ n ∧ n ≤ 999999 ∧ c = 2 ∧ okD 2 y m l d ∧ num y m l d = n) ∨ (¬ (0 ≤ n ∧ n ≤ 999999) ∧ c = 0 ∧ y = 0 ∧ m = 0 ∧ d = 0 ∧ l = false)
theorem LunIs.unique {n c y m d c' y' m' d' : Int} {l l' : Bool} (h : LunIs n c y m d l) (k : LunIs n c' y' m' d' l') : c = c' ∧ y = y' ∧ m = m' ∧ d = d' ∧ l = l' := by
  rcases h with ⟨a0, a1, rfl, a2, a3⟩ | ⟨a0, rfl, rfl, rfl, rfl, rfl⟩
  · rcases k with ⟨_, _, rfl, b2, b3⟩ | ⟨b0, _⟩
    · obtain ⟨x, x1, x2, x3⟩ := num_inj a2 b2 (a3.trans b3.symm)
      exact ⟨rfl, x, x1, x3, x2⟩
    · exact absurd ⟨a0, a1⟩ b0
  · rcases k with ⟨b0, b1, _⟩ | ⟨_, rfl, rfl, rfl, rfl, rfl⟩
    · exact absurd ⟨b0, b1⟩ a0
    · exact ⟨rfl, rfl, rfl, rfl, rfl⟩
theorem LunIs.of {y m d : Int} {l : Bool} (h : okD 2 y m l d) (k : num y m l d ≤ 999999) : LunIs (num y m l d) 2 y m d l := by
  have h1 := (num_range h).1
  have h2 := ys_ge h.in_.2.1.1
  exact .inl ⟨by have := h.in_.2.1.1; omega, k, rfl, h, rfl⟩
/-- The date at the index k of the year y. -/
theorem lun_at {n y : Int} {k : Nat} (h0 : 0 ≤ n) (h1 : n ≤ 999999) (hy : 0 ≤ y) (hk : (k : Int) < nm (leapB y)) (a : 0 ≤ n - ys y - ck (leapB y) k) (b : n - ys y - ck (leapB y) k < md (mo (leapB y) k) (ml (leapB y) k)) :
    LunIs n 2 y (mo (leapB y) k) (1 + (n - ys y - ck (leapB y) k)) (ml (leapB y) k) := by
  obtain ⟨m1, m2⟩ := mo_in (b := leapB y) (k := (k : Int)) (by omega) hk
  refine .inl ⟨h0, h1, rfl, okD.mk ⟨hy, m1⟩ (by omega) (by omega), ?_⟩
  unfold num
  rw [m2]
  omega
def DtPost (w : World) (n : Int) (e : Ending) (w' : World) : Prop := ∃ (c y m d : Int) (l : Bool), e = .returned (.tuple #[(.agg #[.int .i64 c, .int .i64 y, .int .i64 m, .int .i64 d, .bool l]), .int .i64 (errV n)]) ∧ LunIs n c y m d l ∧ Aft w w'
def RDtPost (w : World) (n : Int) (e : Ending) (w' : World) : Prop := ∃ (c y m d : Int) (l : Bool), e = .returned (.agg #[.int .i64 c, .int .i64 y, .int .i64 m, .int .i64 d, .bool l]) ∧ LunIs n c y m d l ∧ Aft w w'

set_option maxRecDepth 100000 in
set_option maxHeartbeats 1600000 in
theorem Date_any (n : Int) (w : World) (ht : Tab w) (hg : 0 < w.heap.size) : Calls Tryd.prog 25 #[.int .i64 n] w (DtPost w n) := by
  by_cases h : 0 ≤ n ∧ n ≤ 999999
  · obtain ⟨h0, h⟩ := h
    have HE := Lib.hid (err_in h0 h)
    have A0 := (Aft.refl w).alloc (.cells #[.int .i64 0, .int .i64 0, .int .i64 0, .int .i64 0, .bool false] 34)
    have b0 := BoxD.new w 0 0 0 0 false
    have HT0 := Lib.hid (ht.aft A0)
    have HY := Lib.hid (fun w => yearOf_any n w h0 h)
    clear ht
    go_enter Tryd.func25, Tryd.ntmps25
    go_wp2_with fail
    refine (HY.out _).mono ?_
    rintro e w' ⟨y, rfl, ⟨y0, y1, y2, y3⟩, rfl⟩
    have HL := Lib.hid (fun k hk a b => lun_at (y := y) (k := k) h0 h y0 hk a b)
    have hys := ys_ge y0
    have hsu := ys_succ y0
    have hr1 : n - ys y < yd y := by omega
    have hr0 : 0 ≤ n - ys y := by omega
    have hyd := yd_bd0 y
    have HM := Lib.hid (fun w => Months_any y w)
    have hyn : ¬ y < 0 := by omega
    have HS := Lib.hid (yearStart_any y (w.alloc (.cells #[.int .i64 0, .int .i64 0, .int .i64 0, .int .i64 0, .bool false] 34)) y0 (by omega))
    clear hsu y2 y3
    generalize ys y = S at *
    go_wp2_with fail
    refine HS.out.mono ?_
    rintro e w' ⟨rfl, rfl⟩
    clear HS HY
    have A1 := A0.alloc (.cells #[.int .i64 (n - S)] 3)
    have hbi : BoxI ((w.alloc (.cells #[.int .i64 0, .int .i64 0, .int .i64 0, .int .i64 0, .bool false] 34)).alloc (.cells #[.int .i64 (n - S)] 3)) (w.heap.size + 1) (n - S) := by
      have := World.alloc_heap_new (w.alloc (.cells #[.int .i64 0, .int .i64 0, .int .i64 0, .int .i64 0, .bool false] 34)) (.cells #[.int .i64 (n - S)] 3)
      rw [World.size_alloc] at this
      exact this
    have b1 := b0.aft ((Aft.refl _).alloc (.cells #[.int .i64 (n - S)] 3))
    have HT1 := Lib.hid (HT0.out.aft ((Aft.refl _).alloc (.cells #[.int .i64 (n - S)] 3)))
    clear b0
    go_wp2_with fail
    refine (HM.out _).mono ?_
    rintro e w3 ⟨A, cp, rfl, hms, N3⟩
    rw [if_neg (show ¬ y < 0 by omega)] at hms ⊢
    have b3 := b1.aft N3
    have hb3 := hbi.aft N3
    have HT3 := Lib.hid (HT1.out.aft N3)
    have hkk := nmN_nm (leapB y)
    have hnb := nm_bd (leapB y)
    have hne := ms_ne hms (by omega) hb3
    have HX := Lib.hid (index_any A (nmN (leapB y)) cp y (w.heap.size + 1) (n - S) w3 hms rfl y0 HT3.out (by omega) hb3 hr0 hr1)
    have A3 := A1.trans N3
    have HMS := Lib.hid hms
    have HNE := Lib.hid hne
    have HKK := Lib.hid hkk
    have hcp := hms.le
    have hcm := hms.cmax
    have hnmle : nmN (leapB y) ≤ 13 := by omega
    clear hms hne hkk b1 hbi hb3 N3
    generalize hnn : nmN (leapB y) = NN at *
    clear hnn
    go_wp2_with fail
    refine HX.out.mono ?_
    rintro e w4 ⟨k, rfl, k1, k2, k3, hgr, hbx⟩
    have b4 := b3.grown hgr (by simp)
    obtain ⟨bl, off, rfl, d0, d1, d2, d3, d4⟩ := (HMS.out.grown hgr HNE.out).cells k k1
    have hki : (k : Int) < (NN : Int) := by omega
    have HLI := Lib.hid (HL.out k (by have := HKK.out; omega) k2 k3)
    have hmb := md_bd (mo (leapB y) k) (ml (leapB y) k)
    have A4 := A3.grown hgr (fun q e => by have := Option.some.inj e; omega)
    have hs4 := A4.size
    have hr2 : n - S - ck (leapB y) k ≤ 40 := by omega
    generalize mo (leapB y) k = M at *
    generalize ml (leapB y) k = L at *
    generalize n - S - ck (leapB y) k = r at *
    have AL := (Aft.refl w4).alloc (.cells #[.int .i64 2, .int .i64 y, .int .i64 M, .int .i64 1, .bool L] 34)
    have c5 := (hbx.aft AL).cell
    have b5 := b4.aft ((Aft.refl w4).alloc (.cells #[.int .i64 2, .int .i64 y, .int .i64 M, .int .i64 (1 + r), .bool L] 34))
    obtain ⟨x0, x1, x2, x3, x4⟩ := b5.five
    have g0 := b5.frozen 0; have g1 := b5.frozen 1; have g2 := b5.frozen 2; have g3 := b5.frozen 3; have g4 := b5.frozen 4
    obtain ⟨z0, z1, z2, z3, z4⟩ := (BoxD.new w4 2 y M 1 L).five
    clear b3 b4 b5 hbx hgr AL HX HMS HNE HT3 HT1 HT0 HM HL
    go_wp2
    refine bodyPost_ret (v := .tuple #[(.agg #[.int .i64 2, .int .i64 y, .int .i64 M, .int .i64 (1 + r), .bool L]), .int .i64 0]) (by rw [results_cell_tmp rfl]; simp [go_sem, x0, x1, x2, x3, x4]) rfl ?_
    exact ⟨2, y, M, 1 + r, L, by rw [HE.out], HLI.out, (A4.alloc _).set5 (Nat.le_refl _) _ _ _ _ _⟩
  · have HE := Lib.hid (err_out h)
    by_cases k : n < 0
    · go_enter Tryd.func25, Tryd.ntmps25
      go_wp2
      refine bodyPost_ret (v := .tuple #[(.agg #[.int .i64 0, .int .i64 0, .int .i64 0, .int .i64 0, .bool false]), .int .i64 1]) (by rw [results_cell_tmp rfl]; simp [go_sem]) rfl ?_
      exact ⟨0, 0, 0, 0, false, by rw [HE.out], .inr ⟨h, rfl, rfl, rfl, rfl, rfl⟩, (Aft.refl _).alloc _⟩
    · have k2 : 999999 < n := by omega
      go_enter Tryd.func25, Tryd.ntmps25
      go_wp2
      refine bodyPost_ret (v := .tuple #[(.agg #[.int .i64 0, .int .i64 0, .int .i64 0, .int .i64 0, .bool false]), .int .i64 1]) (by rw [results_cell_tmp rfl]; simp [go_sem]) rfl ?_
      exact ⟨0, 0, 0, 0, false, by rw [HE.out], .inr ⟨h, rfl, rfl, rfl, rfl, rfl⟩, (Aft.refl _).alloc _⟩

set_option maxRecDepth 100000 in
set_option maxHeartbeats 1600000 in
theorem refDate_any (n : Int) (w : World) (h0 : 0 ≤ n) (h : n ≤ 999999) : Calls Tryd.prog 27 #[.int .i64 n] w (RDtPost w n) := by
  have A0 := (Aft.refl w).alloc (.cells #[.int .i64 0, .int .i64 0, .int .i64 0, .int .i64 0, .bool false] 34)
  have b0 := BoxD.new w 0 0 0 0 false
  have HZ := Lib.hid ys_zero
  go_enter Tryd.func27, Tryd.ntmps27
  go_wp2
  go_loop [0, 3] (fun s i => ∃ y : Int, i = .int .i64 y ∧ 0 ≤ y ∧ s = .int .i64 (n - ys y) ∧ 0 ≤ n - ys y) (fun s _ => (intOf s).toNat)
  case atStart => exact ⟨0, rfl, by omega, by rw [HZ.out, Int.sub_zero], by rw [HZ.out]; omega⟩
  case round =>
    obtain ⟨y, rfl, y0, rfl, hr⟩ := hrel
    have hge := ys_ge y0
    have HS := Lib.hid (ys_succ y0)
    have HYD := Lib.hid (fun w => refYd_any y w)
    have hyb := yd_bd y0
    by_cases hc : yd y ≤ n - ys y
    · generalize yd y = D at *
      generalize ys y = S at *
      go_wp2_with fail
      refine (HYD.out _).mono ?_
      rintro e w' ⟨rfl, rfl⟩
      go_wp2_with fail
      refine (HYD.out _).mono ?_
      rintro e w' ⟨rfl, rfl⟩
      go_wp2
      go_round
      case rel => exact ⟨y + 1, rfl, by omega, by rw [HS.out]; go_num, by rw [HS.out]; omega⟩
      case measure => simp [intOf]; omega
    · have hr1 : n - ys y < yd y := by omega
      have HL := Lib.hid (fun k hk a b => lun_at (y := y) (k := k) h0 h y0 hk a b)
      have HM := Lib.hid (fun w => refMonths_any y w)
      have hyn : ¬ y < 0 := by omega
      have hcy := ck_year y0
      have HCY := Lib.hid hcy
      have HZ2 := Lib.hid (ck_zero (leapB y))
      have HME := Lib.hid (fun (j : Nat) hj => md_ent y0 (j := j) hj)
      have HSC := Lib.hid (fun (j : Nat) (hj : (j : Int) < nm (leapB y)) => ck_succ (leapB y) (k := (j : Int)) (by omega) hj)
      clear hcy HS
      generalize yd y = D at *
      generalize ys y = S at *
      go_wp2_with fail
      refine (HYD.out _).mono ?_
      rintro e w' ⟨rfl, rfl⟩
      go_wp2_with fail
      refine (HM.out _).mono ?_
      rintro e w3 ⟨A, cp, rfl, hms, N3⟩
      rw [if_neg (show ¬ y < 0 by omega)] at hms ⊢
      have b3 := Lib.hid (b0.aft N3)
      have A3 := A0.trans N3
      have hkk := nmN_nm (leapB y)
      have hnb := nm_bd (leapB y)
      have HMS := Lib.hid hms
      have hcp := hms.le
      have hcm := hms.cmax
      have HKK := Lib.hid hkk
      have hnmle : nmN (leapB y) ≤ 13 := by omega
      clear hms hkk b0 N3 HYD HM hc HZ A0
      generalize hnn : nmN (leapB y) = NN at *
      clear hnn
      go_wp2
      generalize hW3 : w3 = W3 at *
      clear hW3
      go_loopw [0, 5] (fun s i wr => ∃ j : Nat, j < NN ∧ i = .int .i64 (j : Int) ∧ s = .int .i64 (n - S - ck (leapB y) j) ∧ 0 ≤ n - S - ck (leapB y) j ∧ Aft W3 wr) (fun _ i _ => NN - (intOf i).toNat)
      case atStart => exact ⟨0, by have := HKK.out; omega, rfl, by rw [show ((0 : Nat) : Int) = 0 from rfl, HZ2.out, Int.sub_zero], by rw [show ((0 : Nat) : Int) = 0 from rfl, HZ2.out]; omega, Aft.refl _⟩
      case round =>
        obtain ⟨j, hj, rfl, rfl, hrr, haf⟩ := hrel
        obtain ⟨bl, off, rfl, d0, d1, d2, d3, d4⟩ := (HMS.out.aft haf).cells j hj
        have hji : (j : Int) < (NN : Int) := by omega
        have hjn : (j : Int) < nm (leapB y) := by have := HKK.out; omega
        have he := HME.out j hjn
        have HS1 := Lib.hid (HSC.out j hjn)
        have hmb := md_bd (mo (leapB y) j) (ml (leapB y) j)
        have hck := ck_bd (leapB y) (k := (j : Int)) (by omega) (by omega)
        have HMD := Lib.hid (fun w => refMonthDays_any 2 y (mo (leapB y) j) 1 (ml (leapB y) j) w)
        rw [he] at HMD
        clear he
        by_cases hc2 : md (mo (leapB y) j) (ml (leapB y) j) ≤ n - S - ck (leapB y) j
        · have hj1 : j + 1 < NN := by
            by_cases e : j + 1 = NN
            · have h5 := HS1.out
              have h6 := HCY.out
              rw [← HKK.out, ← e, show ((j + 1 : Nat) : Int) = (j : Int) + 1 by omega, h5] at h6
              omega
            · omega
          have HM2 := Lib.hid (HMS.out)
          generalize md (mo (leapB y) j) (ml (leapB y) j) = MD at *
          generalize mo (leapB y) j = M at *
          generalize ml (leapB y) j = L at *
          generalize ck (leapB y) j = q at *
          go_wp2_with fail
          refine (HMD.out _).mono ?_
          rintro e w4 ⟨rfl, N4⟩
          have g0 := N4.cell d0; have g1 := N4.cell d1; have g2 := N4.cell d2; have g3 := N4.cell d3; have g4 := N4.cell d4
          clear d0 d1 d2 d3 d4
          go_wp2_with fail
          refine (HMD.out _).mono ?_
          rintro e w5 ⟨rfl, N5⟩
          go_wp2
          go_roundw
          case rel => exact ⟨j + 1, hj1, by go_num, by rw [show ((j + 1 : Nat) : Int) = (j : Int) + 1 by omega, HS1.out]; go_num, by rw [show ((j + 1 : Nat) : Int) = (j : Int) + 1 by omega, HS1.out]; omega, (haf.trans N4).trans N5⟩
          case measure => simp [intOf]; omega
        · have HLI := Lib.hid (HL.out j hjn hrr (by omega))
          have hr2 : n - S - ck (leapB y) j ≤ 40 := by omega
          have hr3 : 0 ≤ n - S - ck (leapB y) j := hrr
          generalize md (mo (leapB y) j) (ml (leapB y) j) = MD at *
          generalize mo (leapB y) j = M at *
          generalize ml (leapB y) j = L at *
          generalize n - S - ck (leapB y) j = r at *
          go_wp2_with fail
          refine (HMD.out _).mono ?_
          rintro e w4 ⟨rfl, N4⟩
          have g0 := N4.cell d0; have g1 := N4.cell d1; have g2 := N4.cell d2; have g3 := N4.cell d3; have g4 := N4.cell d4
          have A4 := (A3.trans haf).trans N4
          have b5 := ((b3.out.aft haf).aft N4).aft ((Aft.refl w4).alloc (.cells #[.int .i64 2, .int .i64 y, .int .i64 M, .int .i64 (r + 1), .bool L] 34))
          obtain ⟨x0, x1, x2, x3, x4⟩ := b5.five
          have f0 := b5.frozen 0; have f1 := b5.frozen 1; have f2 := b5.frozen 2; have f3 := b5.frozen 3; have f4 := b5.frozen 4
          have hs4 := A4.size
          have hcm2 : 1 + r = r + 1 := by omega
          rw [hcm2] at HLI
          clear d0 d1 d2 d3 d4 b5 hcm2
          go_wp2
          refine bodyPost_ret (v := (.agg #[.int .i64 2, .int .i64 y, .int .i64 M, .int .i64 (r + 1), .bool L])) (by simp [results, go_sem, x0, x1, x2, x3, x4]) rfl ?_
          exact ⟨2, y, M, r + 1, L, rfl, HLI.out, (A4.alloc _).set5 (Nat.le_refl _) _ _ _ _ _⟩
end Go.Proofs.YtdeojpmimhagjabDoor
