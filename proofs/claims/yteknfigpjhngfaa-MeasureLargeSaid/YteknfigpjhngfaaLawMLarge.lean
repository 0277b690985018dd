/-
  Of the parts that Split returns, what the units below one hold is less than that unit, and their sum is the amount: the law MeasureLarge returns true. Conditions: none.
-/
import Derived.Test.YteknfigpjhngfaaMeasFrame
import Derived.Test.YteknfigpjhngfaaRows
namespace Go.Proofs.Yteknfigpjhngfaa.lawMLarge
open Go.ChangeShapes Go.WideShapes Go.ChangeAt Go.RowKit
open MeasPlain

set_option maxRecDepth 100000 in
set_option maxHeartbeats 1600000 in
theorem walk (A : Option Addr) (n c : Nat) (us : List Un) (N : Int) (w : World) (ha : Ul w A n c us) (_ : c * 24 ≤ reachBytes) (_ : (Lit.int .i64 N).wf = true) :
    Calls Try.prog 8 #[.slice A n c, .int .i64 N] w (BoolPost w true) := by
  cases hg : greatB n 0 us
  · have H1 := Lib.hid (fun w0 (a : Aft w w0) => split_any A n c us N w0 (ha.aft a))
    have H2 := Lib.hid (fun w0 (a : Aft w w0) => check_any A n c us w0 (ha.aft a))
    by_cases hE : (splitV us N).2 = 0
    · obtain ⟨hc, h0, h1⟩ := splitV_inv hE
      have hsv := splitV_ok hc h0 h1
      rw [hsv] at H1
      dsimp only at H1
      have hsz : Sizes (szs us) := chk_sizes hc
      unfold maxC at h1
      have HS := Lib.hid (show ∀ s ∈ szs us, 1 ≤ s ∧ s ≤ 1000000 from fun s hs => hsz.mem hs)
      have HPos := Lib.hid (parts_nonneg h0 (fun s hs => (hsz.mem hs).1))
      have HBel := Lib.hid (fun (k : Nat) (s : Int) (hk : (szs us)[k]? = some s) => below_unit hsz (n := N) hk)
      have HAm := Lib.hid (show amt (szs us) (parts (szs us) N) = N from amt_parts hsz)
      have HLen := Lib.hid (show (parts (szs us) N).length = n by rw [parts_len, szs_len, ha.len])
      have HLs := Lib.hid (show (szs us).length = n by rw [szs_len, ha.len])
      have hac := ha.le
      have hcm := ha.cmax
      have hmx := ha.max
      clear hE hc hsv hsz
      generalize parts (szs us) N = L at *
      go_enter Try.func8, Try.ntmps8
      go_wp2_with fail
      have h1 := awake_any w
      refine h1.mono ?_
      rintro e w1 ⟨rfl, N1⟩
      clear h1
      have A1 := N1
      go_wp2_with fail
      have h1 := great_any A n c us none 0 0 w1 (ha.aft A1) (by omega)
      rw [hg] at h1
      refine h1.mono ?_
      rintro e w2 ⟨rfl, N2⟩
      clear h1
      have A2 := A1.trans N2
      go_wp2_with fail
      have h1 := H1.out w2 A2
      refine h1.mono ?_
      rintro e w3 ⟨⟨Xp, np, cp, rfl, rp⟩, N3⟩
      clear h1
      have A3 := A2.trans N3
      have Rp := Lib.hid (Rw.aft rp (Aft.refl w3))
      clear rp
      obtain rfl : n = np := by rw [← HLen.out]; exact Rp.out.len
      have hpl := Rp.out.le
      have hpm := Rp.out.cmax
      go_wp2
      go_loopw [7, 8] (fun s i wr => ∃ (k : Nat) (S : Int), k ≤ n ∧ i = .int .i64 (k : Nat) ∧ s = .int .i64 S ∧ S = amt ((szs us).take k) (L.take k) ∧ 0 ≤ S ∧ S ≤ 1099511627776 ∧ Aft w3 wr) (fun _ i _ => n - (intOf i).toNat)
      case atStart => exact ⟨0, 0, Nat.zero_le _, rfl, rfl, by simp [amt], by omega, by omega, Aft.refl _⟩
      case round =>
        obtain ⟨k, S, hk, rfl, rfl, hS, s0, s1, haf⟩ := hrel
        have HSS := Lib.hid hS
        clear hS
        by_cases hlt : k < n
        · obtain ⟨b, off, u, rfl, hu, d1, d2⟩ := ha.at_ hlt
          obtain ⟨b2, off2, y, rfl, hy, d3⟩ := Rp.out.at_ hlt
          have c2 := (A3.trans haf).cell d2
          have c3 := haf.cell d3
          dsimp only [vI] at c3
          have hki : (k : Int) < (n : Int) := by omega
          have hwk : IntKind.i64.wrap (k : Int) = (k : Int) := wrap_small _ (by omega) (by omega)
          have hsz := HS.out u.2 (List.mem_of_getElem? (szs_get hu))
          have hy0 := HPos.out y (List.mem_of_getElem? hy)
          have HT := Lib.hid (amt_take (szs_get hu) hy)
          have hbel := HBel.out k u.2 (szs_get hu)
          rw [← HSS.out] at hbel
          have hle := amt_take_le (ss := szs us) (ps := L) (fun s h => (HS.out s h).1) HPos.out (k + 1)
          rw [HT.out, ← HSS.out, HAm.out] at hle
          have hnb : ¬ u.2 ≤ S := by omega
          have hnb2 : decide (u.2 ≤ S) = false := decide_eq_false hnb
          have hny : ¬ y < 0 := by omega
          clear hu hy d1 d2 d3
          obtain ⟨hs1, hs2⟩ := hsz
          generalize u.2 = s at *
          have hm0 := Int.mul_nonneg hy0 (show 0 ≤ s by omega)
          obtain ⟨Z, hZ⟩ : ∃ Z, y * s = Z := ⟨_, rfl⟩
          rw [hZ] at hm0 hle HT
          go_wp2
          go_quiet (fail)
          go_wp2
          go_roundw
          case rel => exact ⟨k + 1, S + Z, by omega, by go_num, by first | rfl | go_num, by rw [HT.out, ← HSS.out], by omega, by omega, haf.drewN _⟩
          case measure => simp [intOf]; omega
        · obtain rfl : k = n := by omega
          obtain rfl : S = N := by rw [HSS.out, amt_full (by rw [HLs.out]; exact Nat.le_refl _) (by rw [HLen.out]; exact Nat.le_refl _)]; exact HAm.out
          go_wp2
          go_ret
          exact ⟨by first | rfl | simp, A3.trans haf⟩
    · have hEb : ((splitV us N).2 != 0) = true := by simp [hE]
      have HX : chk us = false ∨ (chk us = true ∧ N < 0) ∨ (chk us = true ∧ ¬ N < 0 ∧ (1099511627776 : Int) < N) := by
        cases hc : chk us
        · left; rfl
        · right
          by_cases h0 : N < 0
          · left; exact ⟨rfl, h0⟩
          · right
            refine ⟨rfl, h0, ?_⟩
            by_cases h1 : N ≤ 1099511627776
            · rw [splitV_ok hc (by omega) (by unfold maxC; exact h1)] at hE; exact absurd rfl hE
            · omega
      generalize (splitV us N).1 = L at *
      generalize (splitV us N).2 = E at *
      rcases HX with hc | ⟨hc, h0⟩ | ⟨hc, h0, h1⟩
      all_goals
        rw [hc] at H2
        go_enter Try.func8, Try.ntmps8
        go_wp2_with fail
        have h1 := awake_any w
        refine h1.mono ?_
        rintro e w1 ⟨rfl, N1⟩
        clear h1
        have A1 := N1
        go_wp2_with fail
        have h1 := great_any A n c us none 0 0 w1 (ha.aft A1) (by omega)
        rw [hg] at h1
        refine h1.mono ?_
        rintro e w2 ⟨rfl, N2⟩
        clear h1
        have A2 := A1.trans N2
        go_wp2_with fail
        have h1 := H1.out w2 A2
        refine h1.mono ?_
        rintro e w3 ⟨⟨Xp, np, cp, rfl, rp⟩, N3⟩
        clear h1
        have A3 := A2.trans N3
        have Rp := Lib.hid (Rw.aft rp (Aft.refl w3))
        clear rp
        go_wp2_with fail
        have h1 := H2.out w3 A3
        refine h1.mono ?_
        rintro e w4 ⟨rfl, N4⟩
        clear h1
        have A4 := A3.trans N4
        go_wp2
        go_ret
        exact ⟨by first | rfl | simp, A4⟩
  · go_enter Try.func8, Try.ntmps8
    go_wp2_with fail
    have h1 := awake_any w
    refine h1.mono ?_
    rintro e w1 ⟨rfl, N1⟩
    clear h1
    have A1 := N1
    go_wp2_with fail
    have h1 := great_any A n c us none 0 0 w1 (ha.aft A1) (by omega)
    rw [hg] at h1
    refine h1.mono ?_
    rintro e w2 ⟨rfl, N2⟩
    clear h1
    have A2 := A1.trans N2
    go_wp2
    go_ret
    exact ⟨by first | rfl | simp, A2⟩

theorem own : ownKnob Try.prog.godebug = none := by kernel_rfl
theorem laidOut : laidOutB Try.prog = true := by kernel_rfl
theorem bytesU : Try.prog.bytesOf 44 = 24 := by kernel_rfl

set_option maxRecDepth 100000 in
theorem contract (H : Type) (enc : TypeId × Value → H) (W : World) (base : Nat) (args : Array Value) (ds gs : List (DataW H)) (before : List MemPlace)
    (hval : ∀ (j : Nat) t v, Try.f8.params[j]? = some t → args[j]? = some v → Value.okWide Try.prog W .any base t v)
    (hW : DataW.Whole enc Try.prog Try.f8.params.toList Rows.measureLargeSpec.vars false W args.toList ds gs before) (hsz0 : (DataW.weightsEach Try.prog (Try.f8.params.toList ++ Rows.measureLargeSpec.plain.varTypes Try.prog) (ds ++ gs)).all (· ≤ reachBytes) = true) :
    Calls Try.prog 8 args W fun e W' => ∃ v, e = .returned v ∧ Rows.measureLargeSpec.post enc Try.prog Try.f8 false true false false W args v W' := by
  have hW' := hW
  obtain ⟨p, q, hA0, hV, rfl, hfz, hnd⟩ := hW
  have hA : DataW.TrodAll enc Try.prog W 0 (fun _ => true) true Try.f8.params.toList args.toList ds p := hA0
  have hsz := hsz0
  rw [Try.params8] at hA hval hsz
  obtain ⟨v0, vs0, d0, ds0, p0, q0, hargs, rfl, rfl, h0, r0⟩ := trodAll_cons hA
  obtain ⟨v1, vs1, d1, ds1, p1, q1, rfl, rfl, rfl, h1, r1⟩ := trodAll_cons r0
  obtain ⟨rfl, rfl, rfl⟩ := trodAll_nil r1
  obtain rfl : args = #[v0, v1] := by cases args; simp_all
  obtain ⟨rfl, rfl⟩ := trodVars_none hV
  obtain ⟨a0, len0, cap0, rfl⟩ := okWide_slice Try.underlying22 (hval 0 22 v0 rfl rfl)
  have lt0 : ∀ x ∈ p0, x.block < W.heap.size := by obtain ⟨m, hm⟩ := h0; exact DataW.trod_lt m _ _ _ hm
  obtain ⟨xs0, s0, b0⟩ := units_of h0 (Nat.le_refl _) (fun el sp e => by have := sized_slice hsz (j := 0) (t := 22) (e := 44) rfl (by rw [e]; rfl) Try.underlying22; rwa [bytesU] at this)
  obtain ⟨xs1, rfl, rfl, rfl, z1⟩ := open_int Try.underlying3 (hval 1 3 v1 rfl rfl) h1
  clear hA0
  refine (walk a0 len0 cap0 xs0 xs1 W s0 b0 z1).mono fun e W' ⟨he, bel⟩ => ?_
  subst he
  exact ⟨_, rfl, _, _, _, [], _, [], hW', trodAll_mk1 (shut_bool Try.underlying4 _), (trodAll_cons_mk (Below.trod laidOut (by kernel_rfl) (of_decide_eq_true (by kernel_rfl)) h0 bel lt0) (trodAll_cons_mk (shut_int Try.underlying3 z1) trodAll_mk0)), rfl, Below.frame bel _, fun h => by cases h⟩

set_option maxRecDepth 100000 in
theorem lifted (os : Os) (started : os.Started) (H : Type) (enc : TypeId × Value → H) :
    ReturnsInHanded {} Try.checked os 8 .any (Rows.measureLargeSpec.pre6 enc Try.prog Try.f8 Rows.measureLargeRow.domain false) (Rows.measureLargeSpec.post enc Try.prog Try.f8 false true false false) := by
  refine returnsInHanded_of_change_sized (C := Try.checked) own started (by kernel_rfl) Try.func8
    (ChangeSpec.witness6 (enc := enc) (C := Try.checked) false ⟨#[], #[.slice none 0 0, .int .i64 0], []⟩ 8 (by kernel_rfl) (by kernel_rfl) (by kernel_rfl) (by kernel_rfl)) ?_
  intro W base args ds gs before hval hW _ hsz _
  exact contract H enc W base args ds gs before hval hW hsz

theorem proved : Rows.MeasureLargeSaid :=
  OpenClaim.holds_of_wide 8 Try.f8 rfl rfl rfl rfl rfl rfl rfl ⟨rfl, rfl, rfl, rfl, rfl⟩ rfl rfl rfl rfl rfl (by kernel_rfl) Try.func8 (by kernel_rfl)
    (of_decide_eq_true (by kernel_rfl)) (by unfold Func.isWrapper; rw [if_neg (of_decide_eq_false (by kernel_rfl))]; exact ⟨rfl, rfl⟩)
    (fun os started H enc _ => lifted os started H enc)
#print axioms proved
end Go.Proofs.Yteknfigpjhngfaa.lawMLarge
