/-
  Normal parts are compared from the greatest unit down: the law MeasureOrder returns true. Conditions: none.
-/
import Derived.Test.YteknfigpjhngfaaMeasFrame
import Derived.Test.YteknfigpjhngfaaRows
namespace Go.Proofs.Yteknfigpjhngfaa.lawMOrder
open Go.ChangeShapes Go.WideShapes Go.ChangeAt Go.RowKit
open MeasPlain

theorem cmp_cases (a b : Int) : (a < b ∧ cmpI b a = 1) ∨ (b < a ∧ cmpI b a = -1) ∨ (a = b ∧ cmpI b a = 0) := by
  unfold cmpI
  by_cases h1 : a < b
  · left; exact ⟨h1, by rw [if_neg (by omega), if_pos h1]⟩
  · by_cases h2 : b < a
    · right; left; exact ⟨h2, by rw [if_pos h2]⟩
    · right; right; exact ⟨by omega, by rw [if_neg h2, if_neg h1]⟩
theorem cmp_range (a b : Int) : -1 ≤ cmpI b a ∧ cmpI b a ≤ 1 := by
  rcases cmp_cases a b with ⟨_, h⟩ | ⟨_, h⟩ | ⟨_, h⟩ <;> rw [h] <;> decide
theorem both_ok {us : List Un} {p q : List Int} (h1 : (joinV us p).2 = 0) (h2 : (joinV us q).2 = 0) : bothV us p q = ((joinV us p).1, (joinV us q).1, 0) := by
  unfold bothV
  rw [if_neg (by rw [h1, h2]; decide), if_pos ⟨h1, h2⟩]
theorem both_inv {us : List Un} {p q : List Int} (h : (bothV us p q).2.2 = 0) : (joinV us p).2 = 0 ∧ (joinV us q).2 = 0 := by
  unfold bothV at h
  split at h
  · simp at h
  · split at h
    · assumption
    · simp at h
/-- Normal parts that agree above an index and differ there: so do the amounts. -/
theorem norm_lt {us : List Un} {p q : List Int} {k : Nat} {x y : Int} (hp : normB us p = true) (hq : normB us q = true) (hx : p[k]? = some x) (hy : q[k]? = some y) (hd : p.drop (k + 1) = q.drop (k + 1)) (hlt : x < y) : (joinV us p).1 < (joinV us q).1 := by
  obtain ⟨jp, ep⟩ := norm_iff.1 hp
  obtain ⟨jq, eq⟩ := norm_iff.1 hq
  have hc := joinV_chk jp
  have hcq := joinV_chk jq
  have hs : Sizes (szs us) := chk_sizes hc.1
  have hlen : (szs us).length = p.length := by rw [szs_len]; exact (arg_facts hc.2.1).2.1.symm
  have hk : k < (szs us).length := by rw [hlen]; exact (List.getElem?_eq_some_iff.1 hx).1
  have hsk : (szs us)[k]? = some (szs us)[k] := List.getElem?_eq_getElem hk
  have hb := below_unit hs (n := (joinV us p).1) hsk
  rw [← ep] at hb
  have h := amt_lt (fun s h => (hs.mem h).1) (arg_facts hcq.2.1).2.2 hsk hx hy hb hd hlt
  rw [hc.2.2, hcq.2.2]
  exact h
theorem norm_len {us : List Un} {p : List Int} (hp : normB us p = true) : p.length = us.length := (arg_facts (joinV_chk (norm_iff.1 hp).1).2.1).2.1

set_option maxRecDepth 100000 in
set_option maxHeartbeats 1600000 in
theorem walk (A : Option Addr) (n c : Nat) (us : List Un) (B : Option Addr) (m d : Nat) (p : List Int) (B2 : Option Addr) (m2 d2 : Nat) (q : List Int) (w : World) (ha : Ul w A n c us) (_ : c * 24 ≤ reachBytes) (hb : Rw vI w B m d p) (_ : ∀ z ∈ p, (Lit.int .i64 z).wf = true) (hq : Rw vI w B2 m2 d2 q) (_ : ∀ z ∈ q, (Lit.int .i64 z).wf = true)  :
    Calls Try.prog 10 #[.slice A n c, .slice B m d, .slice B2 m2 d2] w (BoolPost w true) := by
  have hm : m ≤ 9223372036854775807 := by have := hb.le; have := hb.cmax; omega
  have hm2 : m2 ≤ 9223372036854775807 := by have := hq.le; have := hq.cmax; omega
  cases hg : greatB n m us
  · cases hg2 : greatB 0 m2 []
    · have hsw := both_swap us p q
      have H1 := Lib.hid (fun w0 (a : Aft w w0) => compare_any A n c us B m d p B2 m2 d2 q w0 (ha.aft a) (hb.aft a) (hq.aft a))
      have H2 := Lib.hid (fun w0 (a : Aft w w0) => compare_any A n c us B2 m2 d2 q B m d p w0 (ha.aft a) (hq.aft a) (hb.aft a))
      rw [hsw] at H2
      rw [cmpI_neg] at H1
      dsimp only at H2
      clear hsw
      have H3 := Lib.hid (fun w0 (a : Aft w w0) => normal_any A n c us B m d p w0 (ha.aft a) (hb.aft a))
      have H4 := Lib.hid (fun w0 (a : Aft w w0) => normal_any A n c us B2 m2 d2 q w0 (ha.aft a) (hq.aft a))
      obtain ⟨hD1, hD2⟩ := cmp_range (bothV us p q).1 (bothV us p q).2.1
      cases hn1 : normB us p
      · rw [hn1] at H3
        generalize cmpI (bothV us p q).2.1 (bothV us p q).1 = D at *
        generalize (bothV us p q).2.2 = E at *
        go_enter Try.func10, Try.ntmps10
        go_wp2_with fail
        have h1 := awake_any w
        refine h1.mono ?_
        rintro e w1 ⟨rfl, N1⟩
        clear h1
        have A1 := N1
        go_wp2_with fail
        have h1 := great_any A n c us B m d w1 (ha.aft A1) hm
        rw [hg] at h1
        refine h1.mono ?_
        rintro e w2 ⟨rfl, N2⟩
        clear h1
        have A2 := A1.trans N2
        go_wp2_with fail
        have h1 := great_any none 0 0 [] B2 m2 d2 w2 (ul_nil _) hm2
        rw [hg2] at h1
        refine h1.mono ?_
        rintro e w3 ⟨rfl, N3⟩
        clear h1
        have A3 := A2.trans N3
        go_wp2_with fail
        have h1 := H1.out w3 A3
        refine h1.mono ?_
        rintro e w4 ⟨rfl, N4⟩
        clear h1
        have A4 := A3.trans N4
        go_wp2_with fail
        have h1 := H2.out w4 A4
        refine h1.mono ?_
        rintro e w5 ⟨rfl, N5⟩
        clear h1
        have A5 := A4.trans N5
        go_wp2_with fail
        have h1 := H3.out w5 A5
        refine h1.mono ?_
        rintro e w6 ⟨rfl, N6⟩
        clear h1
        have A6 := A5.trans N6
        go_wp2
        go_ret
        exact ⟨by first | rfl | simp, A6⟩
      · rw [hn1] at H3
        cases hn2 : normB us q
        · rw [hn2] at H4
          generalize cmpI (bothV us p q).2.1 (bothV us p q).1 = D at *
          generalize (bothV us p q).2.2 = E at *
          go_enter Try.func10, Try.ntmps10
          go_wp2_with fail
          have h1 := awake_any w
          refine h1.mono ?_
          rintro e w1 ⟨rfl, N1⟩
          clear h1
          have A1 := N1
          go_wp2_with fail
          have h1 := great_any A n c us B m d w1 (ha.aft A1) hm
          rw [hg] at h1
          refine h1.mono ?_
          rintro e w2 ⟨rfl, N2⟩
          clear h1
          have A2 := A1.trans N2
          go_wp2_with fail
          have h1 := great_any none 0 0 [] B2 m2 d2 w2 (ul_nil _) hm2
          rw [hg2] at h1
          refine h1.mono ?_
          rintro e w3 ⟨rfl, N3⟩
          clear h1
          have A3 := A2.trans N3
          go_wp2_with fail
          have h1 := H1.out w3 A3
          refine h1.mono ?_
          rintro e w4 ⟨rfl, N4⟩
          clear h1
          have A4 := A3.trans N4
          go_wp2_with fail
          have h1 := H2.out w4 A4
          refine h1.mono ?_
          rintro e w5 ⟨rfl, N5⟩
          clear h1
          have A5 := A4.trans N5
          go_wp2_with fail
          have h1 := H3.out w5 A5
          refine h1.mono ?_
          rintro e w6 ⟨rfl, N6⟩
          clear h1
          have A6 := A5.trans N6
          go_wp2_with fail
          have h1 := H4.out w6 A6
          refine h1.mono ?_
          rintro e w7 ⟨rfl, N7⟩
          clear h1
          have A7 := A6.trans N7
          go_wp2
          go_ret
          exact ⟨by first | rfl | simp, A7⟩
        · rw [hn2] at H4
          have hbo := both_ok (norm_iff.1 hn1).1 (norm_iff.1 hn2).1
          rw [hbo] at H1 H2 hD1 hD2
          dsimp only at H1 H2 hD1 hD2
          have HLp := Lib.hid (show p.length = m from hb.len)
          have HLq := Lib.hid (show q.length = m by rw [norm_len hn2, ← norm_len hn1]; exact hb.len)
          have HCC := Lib.hid (cmp_cases (joinV us p).1 (joinV us q).1)
          have HN1 := Lib.hid hn1
          have HN2 := Lib.hid hn2
          have hbl := hb.le
          have hbm := hb.cmax
          have hql := hq.le
          have hqm := hq.cmax
          clear hbo hn1 hn2
          obtain ⟨D, hDD⟩ : ∃ D, D = cmpI (joinV us q).1 (joinV us p).1 := ⟨_, rfl⟩
          rw [← hDD] at H1 H2 hD1 hD2 HCC
          have HDD := Lib.hid hDD
          clear hDD
          go_enter Try.func10, Try.ntmps10
          go_wp2_with fail
          have h1 := awake_any w
          refine h1.mono ?_
          rintro e w1 ⟨rfl, N1⟩
          clear h1
          have A1 := N1
          go_wp2_with fail
          have h1 := great_any A n c us B m d w1 (ha.aft A1) hm
          rw [hg] at h1
          refine h1.mono ?_
          rintro e w2 ⟨rfl, N2⟩
          clear h1
          have A2 := A1.trans N2
          go_wp2_with fail
          have h1 := great_any none 0 0 [] B2 m2 d2 w2 (ul_nil _) hm2
          rw [hg2] at h1
          refine h1.mono ?_
          rintro e w3 ⟨rfl, N3⟩
          clear h1
          have A3 := A2.trans N3
          go_wp2_with fail
          have h1 := H1.out w3 A3
          refine h1.mono ?_
          rintro e w4 ⟨rfl, N4⟩
          clear h1
          have A4 := A3.trans N4
          go_wp2_with fail
          have h1 := H2.out w4 A4
          refine h1.mono ?_
          rintro e w5 ⟨rfl, N5⟩
          clear h1
          have A5 := A4.trans N5
          go_wp2_with fail
          have h1 := H3.out w5 A5
          refine h1.mono ?_
          rintro e w6 ⟨rfl, N6⟩
          clear h1
          have A6 := A5.trans N6
          go_wp2_with fail
          have h1 := H4.out w6 A6
          refine h1.mono ?_
          rintro e w7 ⟨rfl, N7⟩
          clear h1
          have A7 := A6.trans N7
          obtain rfl : m2 = m := by rw [← HLq.out]; exact hq.len.symm
          go_wp2
          go_loopw [11] (fun i wr => ∃ (k : Nat) (z : Int), k ≤ m2 ∧ z = (k : Int) - 1 ∧ i = .int .i64 z ∧ p.drop k = q.drop k ∧ Aft w7 wr) (fun i _ => (intOf i + 1).toNat)
          case atStart => exact ⟨m2, _, Nat.le_refl _, rfl, rfl, by rw [List.drop_of_length_le (by rw [HLp.out]; exact Nat.le_refl _), List.drop_of_length_le (by rw [HLq.out]; exact Nat.le_refl _)], Aft.refl _⟩
          case round =>
            obtain ⟨k, z, hk, hz, rfl, hd, haf⟩ := hrel
            have HD := Lib.hid hd
            clear hd
            cases k with
            | zero =>
              obtain rfl : z = -1 := by omega
              clear hz
              have hpq : p = q := by simpa using HD.out
              have hd0 : D = 0 := by
                rcases HCC.out with ⟨h, _⟩ | ⟨h, _⟩ | ⟨_, h⟩
                · rw [hpq] at h; omega
                · rw [hpq] at h; omega
                · exact h
              subst hd0
              go_wp2
              go_ret
              exact ⟨by first | rfl | simp, A7.trans haf⟩
            | succ k =>
              obtain rfl : z = (k : Int) := by omega
              clear hz
              have hlt : k < m2 := by omega
              obtain ⟨b, off, x, rfl, hx, g1⟩ := hb.at_ hlt
              obtain ⟨b2, off2, y, rfl, hy, g2⟩ := hq.at_ hlt
              have c1 := (A7.trans haf).cell g1
              have c2 := (A7.trans haf).cell g2
              dsimp only [vI] at c1 c2
              have hki : (k : Int) < (m2 : Int) := by omega
              have hwk : IntKind.i64.wrap (k : Int) = (k : Int) := wrap_small _ (by omega) (by omega)
              by_cases hxy : x < y
              · have hlo := norm_lt HN1.out HN2.out hx hy HD.out hxy
                have hd0 : D = 1 := by
                  rcases HCC.out with ⟨_, h⟩ | ⟨h, _⟩ | ⟨h, _⟩
                  · exact h
                  · omega
                  · omega
                clear hlo hx hy g1 g2
                subst hd0
                go_wp2
                go_quiet (fail)
                go_wp2
                go_ret
                exact ⟨by first | rfl | simp, (A7.trans haf).drewN _⟩
              · by_cases hyx : y < x
                · have hlo := norm_lt HN2.out HN1.out hy hx HD.out.symm hyx
                  have hd0 : D = -1 := by
                    rcases HCC.out with ⟨h, _⟩ | ⟨_, h⟩ | ⟨h, _⟩
                    · omega
                    · exact h
                    · omega
                  clear hlo hx hy g1 g2
                  subst hd0
                  go_wp2
                  go_quiet (fail)
                  go_wp2
                  go_quiet (fail)
                  go_wp2
                  go_ret
                  exact ⟨by first | rfl | simp, (A7.trans haf).drewN _⟩
                · obtain rfl : x = y := by omega
                  have HD2 := Lib.hid (show p.drop k = q.drop k by rw [drop_of_get hx, drop_of_get hy, HD.out])
                  clear hx hy g1 g2
                  go_wp2
                  go_quiet (fail)
                  go_wp2
                  go_quiet (fail)
                  go_wp2
                  go_roundw
                  case rel => exact ⟨k, _, by omega, rfl, rfl, HD2.out, haf.drewN _⟩
                  case measure => simp [intOf]
    · go_enter Try.func10, Try.ntmps10
      go_wp2_with fail
      have h1 := awake_any w
      refine h1.mono ?_
      rintro e w1 ⟨rfl, N1⟩
      clear h1
      have A1 := N1
      go_wp2_with fail
      have h1 := great_any A n c us B m d w1 (ha.aft A1) hm
      rw [hg] at h1
      refine h1.mono ?_
      rintro e w2 ⟨rfl, N2⟩
      clear h1
      have A2 := A1.trans N2
      go_wp2_with fail
      have h1 := great_any none 0 0 [] B2 m2 d2 w2 (ul_nil _) hm2
      rw [hg2] at h1
      refine h1.mono ?_
      rintro e w3 ⟨rfl, N3⟩
      clear h1
      have A3 := A2.trans N3
      go_wp2
      go_ret
      exact ⟨by first | rfl | simp, A3⟩
  · go_enter Try.func10, Try.ntmps10
    go_wp2_with fail
    have h1 := awake_any w
    refine h1.mono ?_
    rintro e w1 ⟨rfl, N1⟩
    clear h1
    have A1 := N1
    go_wp2_with fail
    have h1 := great_any A n c us B m d w1 (ha.aft A1) hm
    rw [hg] at h1
    refine h1.mono ?_
    rintro e w2 ⟨rfl, N2⟩
    clear h1
    have A2 := A1.trans N2
    go_wp2
    go_ret
    exact ⟨by first | rfl | simp, A2⟩

theorem own : ownKnob Try.prog.godebug = none := by kernel_rfl
theorem laidOut : laidOutB Try.prog = true := by kernel_rfl
theorem bytesU : Try.prog.bytesOf 44 = 24 := by kernel_rfl

set_option maxRecDepth 100000 in
theorem contract (H : Type) (enc : TypeId × Value → H) (W : World) (base : Nat) (args : Array Value) (ds gs : List (DataW H)) (before : List MemPlace)
    (hval : ∀ (j : Nat) t v, Try.f10.params[j]? = some t → args[j]? = some v → Value.okWide Try.prog W .any base t v)
    (hW : DataW.Whole enc Try.prog Try.f10.params.toList Rows.measureOrderSpec.vars false W args.toList ds gs before) (hsz0 : (DataW.weightsEach Try.prog (Try.f10.params.toList ++ Rows.measureOrderSpec.plain.varTypes Try.prog) (ds ++ gs)).all (· ≤ reachBytes) = true) :
    Calls Try.prog 10 args W fun e W' => ∃ v, e = .returned v ∧ Rows.measureOrderSpec.post enc Try.prog Try.f10 false true false false W args v W' := by
  have hW' := hW
  obtain ⟨p, q, hA0, hV, rfl, hfz, hnd⟩ := hW
  have hA : DataW.TrodAll enc Try.prog W 0 (fun _ => true) true Try.f10.params.toList args.toList ds p := hA0
  have hsz := hsz0
  rw [Try.params10] at hA hval hsz
  obtain ⟨v0, vs0, d0, ds0, p0, q0, hargs, rfl, rfl, h0, r0⟩ := trodAll_cons hA
  obtain ⟨v1, vs1, d1, ds1, p1, q1, rfl, rfl, rfl, h1, r1⟩ := trodAll_cons r0
  obtain ⟨v2, vs2, d2, ds2, p2, q2, rfl, rfl, rfl, h2, r2⟩ := trodAll_cons r1
  obtain ⟨rfl, rfl, rfl⟩ := trodAll_nil r2
  obtain rfl : args = #[v0, v1, v2] := by cases args; simp_all
  obtain ⟨rfl, rfl⟩ := trodVars_none hV
  obtain ⟨a0, len0, cap0, rfl⟩ := okWide_slice Try.underlying22 (hval 0 22 v0 rfl rfl)
  have lt0 : ∀ x ∈ p0, x.block < W.heap.size := by obtain ⟨m, hm⟩ := h0; exact DataW.trod_lt m _ _ _ hm
  obtain ⟨xs0, s0, b0⟩ := units_of h0 (Nat.le_refl _) (fun el sp e => by have := sized_slice hsz (j := 0) (t := 22) (e := 44) rfl (by rw [e]; rfl) Try.underlying22; rwa [bytesU] at this)
  obtain ⟨a1, len1, cap1, rfl⟩ := okWide_slice Try.underlying25 (hval 1 25 v1 rfl rfl)
  have lt1 : ∀ x ∈ p1, x.block < W.heap.size := by obtain ⟨m, hm⟩ := h1; exact DataW.trod_lt m _ _ _ hm
  obtain ⟨xs1, s1, z1⟩ := ints_of h1
  obtain ⟨a2, len2, cap2, rfl⟩ := okWide_slice Try.underlying25 (hval 2 25 v2 rfl rfl)
  have lt2 : ∀ x ∈ p2, x.block < W.heap.size := by obtain ⟨m, hm⟩ := h2; exact DataW.trod_lt m _ _ _ hm
  obtain ⟨xs2, s2, z2⟩ := ints_of h2
  clear hA0
  refine (walk a0 len0 cap0 xs0 a1 len1 cap1 xs1 a2 len2 cap2 xs2 W s0 b0 s1 z1 s2 z2).mono fun e W' ⟨he, bel⟩ => ?_
  subst he
  exact ⟨_, rfl, _, _, _, [], _, [], hW', trodAll_mk1 (shut_bool Try.underlying4 _), (trodAll_cons_mk (Below.trod laidOut (by kernel_rfl) (of_decide_eq_true (by kernel_rfl)) h0 bel lt0) (trodAll_cons_mk (Below.trod laidOut (by kernel_rfl) (of_decide_eq_true (by kernel_rfl)) h1 bel lt1) (trodAll_cons_mk (Below.trod laidOut (by kernel_rfl) (of_decide_eq_true (by kernel_rfl)) h2 bel lt2) trodAll_mk0))), rfl, Below.frame bel _, fun h => by cases h⟩

set_option maxRecDepth 100000 in
theorem lifted (os : Os) (started : os.Started) (H : Type) (enc : TypeId × Value → H) :
    ReturnsInHanded {} Try.checked os 10 .any (Rows.measureOrderSpec.pre6 enc Try.prog Try.f10 Rows.measureOrderRow.domain false) (Rows.measureOrderSpec.post enc Try.prog Try.f10 false true false false) := by
  refine returnsInHanded_of_change_sized (C := Try.checked) own started (by kernel_rfl) Try.func10
    (ChangeSpec.witness6 (enc := enc) (C := Try.checked) false ⟨#[], #[.slice none 0 0, .slice none 0 0, .slice none 0 0], []⟩ 8 (by kernel_rfl) (by kernel_rfl) (by kernel_rfl) (by kernel_rfl)) ?_
  intro W base args ds gs before hval hW _ hsz _
  exact contract H enc W base args ds gs before hval hW hsz

theorem proved : Rows.MeasureOrderSaid :=
  OpenClaim.holds_of_wide 10 Try.f10 rfl rfl rfl rfl rfl rfl rfl ⟨rfl, rfl, rfl, rfl, rfl⟩ rfl rfl rfl rfl rfl (by kernel_rfl) Try.func10 (by kernel_rfl)
    (of_decide_eq_true (by kernel_rfl)) (by unfold Func.isWrapper; rw [if_neg (of_decide_eq_false (by kernel_rfl))]; exact ⟨rfl, rfl⟩)
    (fun os started H enc _ => lifted os started H enc)
#print axioms proved
end Go.Proofs.Yteknfigpjhngfaa.lawMOrder
