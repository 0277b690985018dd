/-
  Amounts add up, in either order: the law MeasureAdds returns true. Conditions: none.
-/
import Derived.Test.YteknfigpjhngfaaMeasFrame
import Derived.Test.YteknfigpjhngfaaRows
namespace Go.Proofs.Yteknfigpjhngfaa.lawMAdds
open Go.ChangeShapes Go.WideShapes Go.ChangeAt Go.RowKit
open MeasPlain

theorem cmp_cases (a b : Int) : (a < b ∧ cmpI b a = 1) ∨ (b < a ∧ cmpI b a = -1) ∨ (a = b ∧ cmpI b a = 0) := by
  unfold cmpI
  by_cases h1 : a < b
  · left; exact ⟨h1, by rw [if_neg (by omega), if_pos h1]⟩
  · by_cases h2 : b < a
    · right; left; exact ⟨h2, by rw [if_pos h2]⟩
    · right; right; exact ⟨by omega, by rw [if_neg h2, if_neg h1]⟩
theorem cmp_range (a b : Int) : -1 ≤ cmpI b a ∧ cmpI b a ≤ 1 := by
  rcases cmp_cases a b with ⟨_, h⟩ | ⟨_, h⟩ | ⟨_, h⟩ <;> rw [h] <;> decide
theorem both_ok {us : List Un} {p q : List Int} (h1 : (joinV us p).2 = 0) (h2 : (joinV us q).2 = 0) : bothV us p q = ((joinV us p).1, (joinV us q).1, 0) := by
  unfold bothV
  rw [if_neg (by rw [h1, h2]; decide), if_pos ⟨h1, h2⟩]
theorem both_inv {us : List Un} {p q : List Int} (h : (bothV us p q).2.2 = 0) : (joinV us p).2 = 0 ∧ (joinV us q).2 = 0 := by
  unfold bothV at h
  split at h
  · simp at h
  · split at h
    · assumption
    · simp at h
/-- Normal parts that agree above an index and differ there: so do the amounts. -/
theorem norm_lt {us : List Un} {p q : List Int} {k : Nat} {x y : Int} (hp : normB us p = true) (hq : normB us q = true) (hx : p[k]? = some x) (hy : q[k]? = some y) (hd : p.drop (k + 1) = q.drop (k + 1)) (hlt : x < y) : (joinV us p).1 < (joinV us q).1 := by
  obtain ⟨jp, ep⟩ := norm_iff.1 hp
  obtain ⟨jq, eq⟩ := norm_iff.1 hq
  have hc := joinV_chk jp
  have hcq := joinV_chk jq
  have hs : Sizes (szs us) := chk_sizes hc.1
  have hlen : (szs us).length = p.length := by rw [szs_len]; exact (arg_facts hc.2.1).2.1.symm
  have hk : k < (szs us).length := by rw [hlen]; exact (List.getElem?_eq_some_iff.1 hx).1
  have hsk : (szs us)[k]? = some (szs us)[k] := List.getElem?_eq_getElem hk
  have hb := below_unit hs (n := (joinV us p).1) hsk
  rw [← ep] at hb
  have h := amt_lt (fun s h => (hs.mem h).1) (arg_facts hcq.2.1).2.2 hsk hx hy hb hd hlt
  rw [hc.2.2, hcq.2.2]
  exact h
theorem norm_len {us : List Un} {p : List Int} (hp : normB us p = true) : p.length = us.length := (arg_facts (joinV_chk (norm_iff.1 hp).1).2.1).2.1

set_option maxRecDepth 100000 in
set_option maxHeartbeats 1600000 in
theorem walk (A : Option Addr) (n c : Nat) (us : List Un) (B : Option Addr) (m d : Nat) (p : List Int) (B2 : Option Addr) (m2 d2 : Nat) (q : List Int) (w : World) (ha : Ul w A n c us) (_ : c * 24 ≤ reachBytes) (hb : Rw vI w B m d p) (_ : ∀ z ∈ p, (Lit.int .i64 z).wf = true) (hq : Rw vI w B2 m2 d2 q) (_ : ∀ z ∈ q, (Lit.int .i64 z).wf = true)  :
    Calls Try.prog 11 #[.slice A n c, .slice B m d, .slice B2 m2 d2] w (BoolPost w true) := by
  have hm : m ≤ 9223372036854775807 := by have := hb.le; have := hb.cmax; omega
  have hm2 : m2 ≤ 9223372036854775807 := by have := hq.le; have := hq.cmax; omega
  cases hg : greatB n m us
  · cases hg2 : greatB 0 m2 []
    · have hsw : addV us q p = addV us p q := by unfold addV; rw [both_swap us p q]; dsimp only; rw [Int.add_comm]
      have H1 := Lib.hid (fun w0 (a : Aft w w0) => add_any A n c us B m d p B2 m2 d2 q w0 (ha.aft a) (hb.aft a) (hq.aft a))
      have H2 := Lib.hid (fun w0 (a : Aft w w0) => add_any A n c us B2 m2 d2 q B m d p w0 (ha.aft a) (hq.aft a) (hb.aft a))
      rw [hsw] at H2
      clear hsw
      have H3 := Lib.hid (fun w0 (a : Aft w w0) => join_any A n c us B m d p w0 (ha.aft a) (hb.aft a))
      have H4 := Lib.hid (fun w0 (a : Aft w w0) => join_any A n c us B2 m2 d2 q w0 (ha.aft a) (hq.aft a))
      have hav : addV us p q = if (bothV us p q).2.2 = 0 then splitV us ((bothV us p q).1 + (bothV us p q).2.1) else ([], (bothV us p q).2.2) := rfl
      by_cases hE : (bothV us p q).2.2 = 0
      · obtain ⟨j1, j2⟩ := both_inv hE
        have hbo := both_ok j1 j2
        have hr1 := joinV_range us p
        have hr2 := joinV_range us q
        have hc := (joinV_chk j1).1
        rw [if_pos hE, hbo] at hav
        dsimp only at hav
        rw [hav] at H1 H2
        rw [j1] at H3
        rw [j2] at H4
        clear hav hbo hE j1 j2
        generalize (joinV us p).1 = a at *
        generalize (joinV us q).1 = b at *
        clear hb hq
        by_cases hM : a + b ≤ 1099511627776
        · have hsv := splitV_ok hc (show 0 ≤ a + b by omega) (show a + b ≤ maxC from hM)
          have hjs := join_split hc (show 0 ≤ a + b by omega) (show a + b ≤ maxC from hM)
          have hns := norm_split hc (show 0 ≤ a + b by omega) (show a + b ≤ maxC from hM)
          rw [hsv] at H1 H2
          dsimp only at H1 H2
          have H6 := Lib.hid (fun w0 (a9 : Aft w w0) => fun (X : Option Addr) (nx cx : Nat) (r : Rw vI w0 X nx cx (parts (szs us) (a + b))) => join_any A n c us X nx cx _ w0 (ha.aft a9) r)
          have H7 := Lib.hid (fun w0 (a9 : Aft w w0) => fun (X : Option Addr) (nx cx : Nat) (r : Rw vI w0 X nx cx (parts (szs us) (a + b))) => normal_any A n c us X nx cx _ w0 (ha.aft a9) r)
          rw [hjs] at H6
          rw [hns] at H7
          dsimp only at H6
          unfold maxC at hr1 hr2
          clear hsv hjs hns hc
          generalize parts (szs us) (a + b) = L at *
          go_enter Try.func11, Try.ntmps11
          go_wp2_with fail
          have h1 := awake_any w
          refine h1.mono ?_
          rintro e w1 ⟨rfl, N1⟩
          clear h1
          have A1 := N1
          go_wp2_with fail
          have h1 := great_any A n c us B m d w1 (ha.aft A1) hm
          rw [hg] at h1
          refine h1.mono ?_
          rintro e w2 ⟨rfl, N2⟩
          clear h1
          have A2 := A1.trans N2
          go_wp2_with fail
          have h1 := great_any none 0 0 [] B2 m2 d2 w2 (ul_nil _) hm2
          rw [hg2] at h1
          refine h1.mono ?_
          rintro e w3 ⟨rfl, N3⟩
          clear h1
          have A3 := A2.trans N3
          go_wp2_with fail
          have h1 := H1.out w3 A3
          refine h1.mono ?_
          rintro e w4 ⟨⟨Xs, ns, cs, rfl, rs⟩, N4⟩
          clear h1
          have A4 := A3.trans N4
          have Rs := Lib.hid (Rw.aft rs (Aft.refl w4))
          clear rs
          go_wp2_with fail
          have h1 := H2.out w4 A4
          refine h1.mono ?_
          rintro e w5 ⟨⟨Xt, nt, ct, rfl, rt⟩, N5⟩
          clear h1
          have A5 := A4.trans N5
          have Rt := Lib.hid (Rw.aft rt (Aft.refl w5))
          clear rt
          go_wp2_with fail
          have h1 := same_any Xs ns cs L Xt nt ct L w5 (Rs.out.aft N5) Rt.out
          rw [decide_eq_true rfl] at h1
          refine h1.mono ?_
          rintro e w6 ⟨rfl, N6⟩
          clear h1
          have A6 := A5.trans N6
          go_wp2_with fail
          have h1 := H3.out w6 A6
          refine h1.mono ?_
          rintro e w7 ⟨rfl, N7⟩
          clear h1
          have A7 := A6.trans N7
          go_wp2_with fail
          have h1 := H4.out w7 A7
          refine h1.mono ?_
          rintro e w8 ⟨rfl, N8⟩
          clear h1
          have A8 := A7.trans N8
          go_wp2_with fail
          have h1 := H6.out w8 A8 Xs ns cs (Rs.out.aft (((N5.trans N6).trans N7).trans N8))
          refine h1.mono ?_
          rintro e w9 ⟨rfl, N9⟩
          clear h1
          have A9 := A8.trans N9
          go_wp2_with fail
          have h1 := H7.out w9 A9 Xs ns cs (Rs.out.aft ((((N5.trans N6).trans N7).trans N8).trans N9))
          refine h1.mono ?_
          rintro e w10 ⟨rfl, N10⟩
          clear h1
          have A10 := A9.trans N10
          go_wp2
          go_ret
          exact ⟨by first | rfl | simp, A10⟩
        · have hsv := split_no3 hc (show ¬ a + b < 0 by omega) (show (1099511627776 : Int) < a + b by omega)
          rw [hsv] at H1 H2
          dsimp only at H1 H2
          have hM' : (1099511627776 : Int) < a + b := by omega
          unfold maxC at hr1 hr2
          clear hsv hc
          go_enter Try.func11, Try.ntmps11
          go_wp2_with fail
          have h1 := awake_any w
          refine h1.mono ?_
          rintro e w1 ⟨rfl, N1⟩
          clear h1
          have A1 := N1
          go_wp2_with fail
          have h1 := great_any A n c us B m d w1 (ha.aft A1) hm
          rw [hg] at h1
          refine h1.mono ?_
          rintro e w2 ⟨rfl, N2⟩
          clear h1
          have A2 := A1.trans N2
          go_wp2_with fail
          have h1 := great_any none 0 0 [] B2 m2 d2 w2 (ul_nil _) hm2
          rw [hg2] at h1
          refine h1.mono ?_
          rintro e w3 ⟨rfl, N3⟩
          clear h1
          have A3 := A2.trans N3
          go_wp2_with fail
          have h1 := H1.out w3 A3
          refine h1.mono ?_
          rintro e w4 ⟨⟨Xs, ns, cs, rfl, rs⟩, N4⟩
          clear h1
          have A4 := A3.trans N4
          have Rs := Lib.hid (Rw.aft rs (Aft.refl w4))
          clear rs
          go_wp2_with fail
          have h1 := H2.out w4 A4
          refine h1.mono ?_
          rintro e w5 ⟨⟨Xt, nt, ct, rfl, rt⟩, N5⟩
          clear h1
          have A5 := A4.trans N5
          have Rt := Lib.hid (Rw.aft rt (Aft.refl w5))
          clear rt
          go_wp2_with fail
          have h1 := same_any Xs ns cs [] Xt nt ct [] w5 (Rs.out.aft N5) Rt.out
          rw [decide_eq_true rfl] at h1
          refine h1.mono ?_
          rintro e w6 ⟨rfl, N6⟩
          clear h1
          have A6 := A5.trans N6
          go_wp2_with fail
          have h1 := H3.out w6 A6
          refine h1.mono ?_
          rintro e w7 ⟨rfl, N7⟩
          clear h1
          have A7 := A6.trans N7
          go_wp2_with fail
          have h1 := H4.out w7 A7
          refine h1.mono ?_
          rintro e w8 ⟨rfl, N8⟩
          clear h1
          have A8 := A7.trans N8
          go_wp2
          go_ret
          exact ⟨by first | rfl | simp, A8⟩
      · have hEb : ((bothV us p q).2.2 != 0) = true := by simp [hE]
        rw [if_neg hE] at hav
        rw [hav] at H1 H2
        dsimp only at H1 H2
        have hor : (joinV us p).2 ≠ 0 ∨ ((joinV us p).2 = 0 ∧ (joinV us q).2 ≠ 0) := by
          by_cases h1 : (joinV us p).2 = 0
          · right
            refine ⟨h1, fun h2 => hE ?_⟩
            rw [both_ok h1 h2]
          · left; exact h1
        clear hav
        generalize (bothV us p q).2.2 = E at *
        generalize (joinV us p).1 = a at *
        generalize (joinV us q).1 = b at *
        generalize (joinV us p).2 = g at *
        generalize (joinV us q).2 = h at *
        clear hb hq
        rcases hor with hg1 | ⟨hg1, hg2'⟩
        · have hgb : (g != 0) = true := by simp [hg1]
          go_enter Try.func11, Try.ntmps11
          go_wp2_with fail
          have h1 := awake_any w
          refine h1.mono ?_
          rintro e w1 ⟨rfl, N1⟩
          clear h1
          have A1 := N1
          go_wp2_with fail
          have h1 := great_any A n c us B m d w1 (ha.aft A1) hm
          rw [hg] at h1
          refine h1.mono ?_
          rintro e w2 ⟨rfl, N2⟩
          clear h1
          have A2 := A1.trans N2
          go_wp2_with fail
          have h1 := great_any none 0 0 [] B2 m2 d2 w2 (ul_nil _) hm2
          rw [hg2] at h1
          refine h1.mono ?_
          rintro e w3 ⟨rfl, N3⟩
          clear h1
          have A3 := A2.trans N3
          go_wp2_with fail
          have h1 := H1.out w3 A3
          refine h1.mono ?_
          rintro e w4 ⟨⟨Xs, ns, cs, rfl, rs⟩, N4⟩
          clear h1
          have A4 := A3.trans N4
          have Rs := Lib.hid (Rw.aft rs (Aft.refl w4))
          clear rs
          go_wp2_with fail
          have h1 := H2.out w4 A4
          refine h1.mono ?_
          rintro e w5 ⟨⟨Xt, nt, ct, rfl, rt⟩, N5⟩
          clear h1
          have A5 := A4.trans N5
          have Rt := Lib.hid (Rw.aft rt (Aft.refl w5))
          clear rt
          go_wp2_with fail
          have h1 := same_any Xs ns cs [] Xt nt ct [] w5 (Rs.out.aft N5) Rt.out
          rw [decide_eq_true rfl] at h1
          refine h1.mono ?_
          rintro e w6 ⟨rfl, N6⟩
          clear h1
          have A6 := A5.trans N6
          go_wp2_with fail
          have h1 := H3.out w6 A6
          refine h1.mono ?_
          rintro e w7 ⟨rfl, N7⟩
          clear h1
          have A7 := A6.trans N7
          go_wp2_with fail
          have h1 := H4.out w7 A7
          refine h1.mono ?_
          rintro e w8 ⟨rfl, N8⟩
          clear h1
          have A8 := A7.trans N8
          go_wp2
          go_ret
          exact ⟨by first | rfl | simp, A8⟩
        · subst hg1
          have hgb : (h != 0) = true := by simp [hg2']
          go_enter Try.func11, Try.ntmps11
          go_wp2_with fail
          have h1 := awake_any w
          refine h1.mono ?_
          rintro e w1 ⟨rfl, N1⟩
          clear h1
          have A1 := N1
          go_wp2_with fail
          have h1 := great_any A n c us B m d w1 (ha.aft A1) hm
          rw [hg] at h1
          refine h1.mono ?_
          rintro e w2 ⟨rfl, N2⟩
          clear h1
          have A2 := A1.trans N2
          go_wp2_with fail
          have h1 := great_any none 0 0 [] B2 m2 d2 w2 (ul_nil _) hm2
          rw [hg2] at h1
          refine h1.mono ?_
          rintro e w3 ⟨rfl, N3⟩
          clear h1
          have A3 := A2.trans N3
          go_wp2_with fail
          have h1 := H1.out w3 A3
          refine h1.mono ?_
          rintro e w4 ⟨⟨Xs, ns, cs, rfl, rs⟩, N4⟩
          clear h1
          have A4 := A3.trans N4
          have Rs := Lib.hid (Rw.aft rs (Aft.refl w4))
          clear rs
          go_wp2_with fail
          have h1 := H2.out w4 A4
          refine h1.mono ?_
          rintro e w5 ⟨⟨Xt, nt, ct, rfl, rt⟩, N5⟩
          clear h1
          have A5 := A4.trans N5
          have Rt := Lib.hid (Rw.aft rt (Aft.refl w5))
          clear rt
          go_wp2_with fail
          have h1 := same_any Xs ns cs [] Xt nt ct [] w5 (Rs.out.aft N5) Rt.out
          rw [decide_eq_true rfl] at h1
          refine h1.mono ?_
          rintro e w6 ⟨rfl, N6⟩
          clear h1
          have A6 := A5.trans N6
          go_wp2_with fail
          have h1 := H3.out w6 A6
          refine h1.mono ?_
          rintro e w7 ⟨rfl, N7⟩
          clear h1
          have A7 := A6.trans N7
          go_wp2_with fail
          have h1 := H4.out w7 A7
          refine h1.mono ?_
          rintro e w8 ⟨rfl, N8⟩
          clear h1
          have A8 := A7.trans N8
          go_wp2
          go_ret
          exact ⟨by first | rfl | simp, A8⟩
    · go_enter Try.func11, Try.ntmps11
      go_wp2_with fail
      have h1 := awake_any w
      refine h1.mono ?_
      rintro e w1 ⟨rfl, N1⟩
      clear h1
      have A1 := N1
      go_wp2_with fail
      have h1 := great_any A n c us B m d w1 (ha.aft A1) hm
      rw [hg] at h1
      refine h1.mono ?_
      rintro e w2 ⟨rfl, N2⟩
      clear h1
      have A2 := A1.trans N2
      go_wp2_with fail
      have h1 := great_any none 0 0 [] B2 m2 d2 w2 (ul_nil _) hm2
      rw [hg2] at h1
      refine h1.mono ?_
      rintro e w3 ⟨rfl, N3⟩
      clear h1
      have A3 := A2.trans N3
      go_wp2
      go_ret
      exact ⟨by first | rfl | simp, A3⟩
  · go_enter Try.func11, Try.ntmps11
    go_wp2_with fail
    have h1 := awake_any w
    refine h1.mono ?_
    rintro e w1 ⟨rfl, N1⟩
    clear h1
    have A1 := N1
    go_wp2_with fail
    have h1 := great_any A n c us B m d w1 (ha.aft A1) hm
    rw [hg] at h1
    refine h1.mono ?_
    rintro e w2 ⟨rfl, N2⟩
    clear h1
    have A2 := A1.trans N2
    go_wp2
    go_ret
    exact ⟨by first | rfl | simp, A2⟩

theorem own : ownKnob Try.prog.godebug = none := by kernel_rfl
theorem laidOut : laidOutB Try.prog = true := by kernel_rfl
theorem bytesU : Try.prog.bytesOf 44 = 24 := by kernel_rfl

set_option maxRecDepth 100000 in
theorem contract (H : Type) (enc : TypeId × Value → H) (W : World) (base : Nat) (args : Array Value) (ds gs : List (DataW H)) (before : List MemPlace)
    (hval : ∀ (j : Nat) t v, Try.f11.params[j]? = some t → args[j]? = some v → Value.okWide Try.prog W .any base t v)
    (hW : DataW.Whole enc Try.prog Try.f11.params.toList Rows.measureAddsSpec.vars false W args.toList ds gs before) (hsz0 : (DataW.weightsEach Try.prog (Try.f11.params.toList ++ Rows.measureAddsSpec.plain.varTypes Try.prog) (ds ++ gs)).all (· ≤ reachBytes) = true) :
    Calls Try.prog 11 args W fun e W' => ∃ v, e = .returned v ∧ Rows.measureAddsSpec.post enc Try.prog Try.f11 false true false false W args v W' := by
  have hW' := hW
  obtain ⟨p, q, hA0, hV, rfl, hfz, hnd⟩ := hW
  have hA : DataW.TrodAll enc Try.prog W 0 (fun _ => true) true Try.f11.params.toList args.toList ds p := hA0
  have hsz := hsz0
  rw [Try.params11] at hA hval hsz
  obtain ⟨v0, vs0, d0, ds0, p0, q0, hargs, rfl, rfl, h0, r0⟩ := trodAll_cons hA
  obtain ⟨v1, vs1, d1, ds1, p1, q1, rfl, rfl, rfl, h1, r1⟩ := trodAll_cons r0
  obtain ⟨v2, vs2, d2, ds2, p2, q2, rfl, rfl, rfl, h2, r2⟩ := trodAll_cons r1
  obtain ⟨rfl, rfl, rfl⟩ := trodAll_nil r2
  obtain rfl : args = #[v0, v1, v2] := by cases args; simp_all
  obtain ⟨rfl, rfl⟩ := trodVars_none hV
  obtain ⟨a0, len0, cap0, rfl⟩ := okWide_slice Try.underlying22 (hval 0 22 v0 rfl rfl)
  have lt0 : ∀ x ∈ p0, x.block < W.heap.size := by obtain ⟨m, hm⟩ := h0; exact DataW.trod_lt m _ _ _ hm
  obtain ⟨xs0, s0, b0⟩ := units_of h0 (Nat.le_refl _) (fun el sp e => by have := sized_slice hsz (j := 0) (t := 22) (e := 44) rfl (by rw [e]; rfl) Try.underlying22; rwa [bytesU] at this)
  obtain ⟨a1, len1, cap1, rfl⟩ := okWide_slice Try.underlying25 (hval 1 25 v1 rfl rfl)
  have lt1 : ∀ x ∈ p1, x.block < W.heap.size := by obtain ⟨m, hm⟩ := h1; exact DataW.trod_lt m _ _ _ hm
  obtain ⟨xs1, s1, z1⟩ := ints_of h1
  obtain ⟨a2, len2, cap2, rfl⟩ := okWide_slice Try.underlying25 (hval 2 25 v2 rfl rfl)
  have lt2 : ∀ x ∈ p2, x.block < W.heap.size := by obtain ⟨m, hm⟩ := h2; exact DataW.trod_lt m _ _ _ hm
  obtain ⟨xs2, s2, z2⟩ := ints_of h2
  clear hA0
  refine (walk a0 len0 cap0 xs0 a1 len1 cap1 xs1 a2 len2 cap2 xs2 W s0 b0 s1 z1 s2 z2).mono fun e W' ⟨he, bel⟩ => ?_
  subst he
  exact ⟨_, rfl, _, _, _, [], _, [], hW', trodAll_mk1 (shut_bool Try.underlying4 _), (trodAll_cons_mk (Below.trod laidOut (by kernel_rfl) (of_decide_eq_true (by kernel_rfl)) h0 bel lt0) (trodAll_cons_mk (Below.trod laidOut (by kernel_rfl) (of_decide_eq_true (by kernel_rfl)) h1 bel lt1) (trodAll_cons_mk (Below.trod laidOut (by kernel_rfl) (of_decide_eq_true (by kernel_rfl)) h2 bel lt2) trodAll_mk0))), rfl, Below.frame bel _, fun h => by cases h⟩

set_option maxRecDepth 100000 in
theorem lifted (os : Os) (started : os.Started) (H : Type) (enc : TypeId × Value → H) :
    ReturnsInHanded {} Try.checked os 11 .any (Rows.measureAddsSpec.pre6 enc Try.prog Try.f11 Rows.measureAddsRow.domain false) (Rows.measureAddsSpec.post enc Try.prog Try.f11 false true false false) := by
  refine returnsInHanded_of_change_sized (C := Try.checked) own started (by kernel_rfl) Try.func11
    (ChangeSpec.witness6 (enc := enc) (C := Try.checked) false ⟨#[], #[.slice none 0 0, .slice none 0 0, .slice none 0 0], []⟩ 8 (by kernel_rfl) (by kernel_rfl) (by kernel_rfl) (by kernel_rfl)) ?_
  intro W base args ds gs before hval hW _ hsz _
  exact contract H enc W base args ds gs before hval hW hsz

theorem proved : Rows.MeasureAddsSaid :=
  OpenClaim.holds_of_wide 11 Try.f11 rfl rfl rfl rfl rfl rfl rfl ⟨rfl, rfl, rfl, rfl, rfl⟩ rfl rfl rfl rfl rfl (by kernel_rfl) Try.func11 (by kernel_rfl)
    (of_decide_eq_true (by kernel_rfl)) (by unfold Func.isWrapper; rw [if_neg (of_decide_eq_false (by kernel_rfl))]; exact ⟨rfl, rfl⟩)
    (fun os started H enc _ => lifted os started H enc)
#print axioms proved
end Go.Proofs.Yteknfigpjhngfaa.lawMAdds
