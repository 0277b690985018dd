/-
  The reference's Split, valid and Join. Conditions: the slices hold the units and the parts.
-/
import Derived.Test.YteknfigpjhngfaaMeasRefC
namespace Go.Proofs.Yteknfigpjhngfaa
open Go.RowKit
open MeasPlain

theorem any_stop {ps : List Int} {k : Nat} {p : Int} (h : ps[k]? = some p) (hp : p < 0) : ps.any (fun p => decide (p < 0)) = true := by
  rw [List.any_eq_true]
  exact ⟨p, List.mem_of_getElem? h, decide_eq_true hp⟩
theorem all_pos {ps : List Int} {n : Nat} (hl : ps.length = n) (h : ∀ j p, j < n → ps[j]? = some p → 0 ≤ p) : ps.any (fun p => decide (p < 0)) = false := by
  rw [List.any_eq_false]
  intro p hp
  obtain ⟨j, hj, rfl⟩ := List.mem_iff_getElem.1 hp
  have := h j _ (by omega) (List.getElem?_eq_getElem hj)
  simp; omega
theorem pos_next {ps : List Int} {k : Nat} {p : Int} (h : ∀ j q, j < k → ps[j]? = some q → 0 ≤ q) (hk : ps[k]? = some p) (hp : 0 ≤ p) : ∀ j q, j < k + 1 → ps[j]? = some q → 0 ≤ q := by
  intro j q hj hq
  by_cases e : j = k
  · subst e; rw [hk] at hq; cases hq; exact hp
  · exact h j q (by omega) hq

set_option maxHeartbeats 1600000 in
theorem refValid_any (A : Option Addr) (n c : Nat) (us : List Un) (B : Option Addr) (m d : Nat) (ps : List Int) (w : World) (ha : Ul w A n c us) (hb : Rw vI w B m d ps) :
    Calls Try.prog 33 #[.slice A n c, .slice B m d] w (BoolPost w (arg us ps)) := by
  have hac := ha.le
  have hcm := ha.cmax
  have hbd := hb.le
  have hdm := hb.cmax
  have H1 := Lib.hid (refCheck_any A n c us w ha)
  have hV := arg_eq ha.len hb.len
  have HL := Lib.hid hb.len
  clear ha
  cases hc : chk us
  · rw [hc] at H1 hV
    have HV := Lib.hid (show arg us ps = false by rw [hV]; rfl)
    clear hc hV
    go_enter Try.func33, Try.ntmps33
    go_wp2_with fail
    refine H1.out.mono ?_
    rintro e w1 ⟨rfl, N1⟩
    clear H1
    go_wp2
    go_ret
    exact ⟨by rw [HV.out]; rfl, N1⟩
  · rw [hc, Bool.true_and] at hV
    rw [hc] at H1
    clear hc
    by_cases hnm : m = n
    · subst hnm
      have HV := Lib.hid (show arg us ps = !(ps.any (fun p => decide (p < 0))) by rw [hV]; unfold forB; simp)
      clear hV
      go_enter Try.func33, Try.ntmps33
      go_wp2_with fail
      refine H1.out.mono ?_
      rintro e w1 ⟨rfl, N1⟩
      clear H1
      go_wp2
      go_loopw [19] (fun i wr => ∃ k : Nat, k ≤ m ∧ i = .int .i64 (k : Nat) ∧ (∀ j p, j < k → ps[j]? = some p → 0 ≤ p) ∧ Aft w1 wr) (fun i _ => m - (intOf i).toNat)
      case atStart => exact ⟨0, Nat.zero_le _, rfl, fun j p hj => by omega, Aft.refl _⟩
      case round =>
        obtain ⟨k, hk, rfl, hpos, haf⟩ := hrel
        have HP := Lib.hid hpos
        clear hpos
        by_cases hlt : k < m
        · obtain ⟨b, off, p, rfl, hp, g1⟩ := hb.at_ hlt
          have c1 := haf.cell (N1.cell g1)
          dsimp only [vI] at c1
          have hki : (k : Int) < (m : Int) := by omega
          by_cases hn : p < 0
          · have HB := Lib.hid (any_stop hp hn)
            clear hp g1
            go_wp2
            go_ret
            exact ⟨by rw [HV.out, HB.out]; rfl, N1.trans haf⟩
          · have HB := Lib.hid (pos_next HP.out hp (by omega))
            clear hp g1
            go_wp2
            go_roundw
            case rel => exact ⟨k + 1, by omega, by go_num, HB.out, haf⟩
            case measure => simp [intOf]; omega
        · obtain rfl : k = m := by omega
          have HB := Lib.hid (all_pos HL.out HP.out)
          go_wp2
          go_ret
          exact ⟨by rw [HV.out, HB.out]; rfl, N1.trans haf⟩
    · have HV := Lib.hid (show arg us ps = false by rw [hV]; unfold forB; rw [decide_eq_false hnm]; rfl)
      have hni : ¬ (m : Int) = (n : Int) := by omega
      have hnb : ((m : Int) != (n : Int)) = true := by simp; omega
      clear hV hnm hb
      go_enter Try.func33, Try.ntmps33
      go_wp2_with fail
      refine H1.out.mono ?_
      rintro e w1 ⟨rfl, N1⟩
      clear H1
      go_wp2
      go_ret
      exact ⟨by rw [HV.out]; rfl, N1⟩

theorem le_mul {p s : Int} (hp : 0 ≤ p) (hs : 1 ≤ s) : p ≤ p * s := by
  have := Int.mul_le_mul_of_nonneg_left hs hp
  omega
theorem mul_bound {p s : Int} (_ : 0 ≤ p) (hp1 : p ≤ 1099511627776) (hs : 0 ≤ s) (hs1 : s ≤ 1000000) : p * s ≤ 1099511627776000000 := by
  have h1 := Int.mul_le_mul_of_nonneg_right hp1 hs
  omega
theorem join_big {us : List Un} {ps : List Int} (ha : arg us ps = true) (h : ¬ amt (szs us) ps ≤ maxC) : joinV us ps = (0, 2) := by unfold joinV; rw [ha, if_pos rfl, if_neg h]
theorem join_ok {us : List Un} {ps : List Int} (ha : arg us ps = true) (h : amt (szs us) ps ≤ maxC) : joinV us ps = (amt (szs us) ps, 0) := by unfold joinV; rw [ha, if_pos rfl, if_pos h]

set_option maxRecDepth 100000 in
set_option maxHeartbeats 1600000 in
theorem refJoin_any (A : Option Addr) (n c : Nat) (us : List Un) (B : Option Addr) (m d : Nat) (ps : List Int) (w : World) (ha : Ul w A n c us) (hb : Rw vI w B m d ps) :
    Calls Try.prog 20 #[.slice A n c, .slice B m d] w (IntRes w (joinV us ps).1 (joinV us ps).2) := by
  have hac := ha.le
  have hcm := ha.cmax
  have hmx := ha.max
  have hbd := hb.le
  have hdm := hb.cmax
  have H1 := Lib.hid (refValid_any A n c us B m d ps w ha hb)
  cases hv : arg us ps
  · rw [hv] at H1
    have HV := Lib.hid (show joinV us ps = (0, 1) by unfold joinV; rw [hv]; rfl)
    clear hv
    go_enter Try.func20, Try.ntmps20
    go_wp2_with fail
    refine H1.out.mono ?_
    rintro e w1 ⟨rfl, N1⟩
    clear H1
    go_wp2
    go_ret2
    exact ⟨by rw [HV.out]; rfl, N1⟩
  · rw [hv] at H1
    have hf := arg_facts hv
    obtain rfl : m = n := by rw [← ha.len, ← hb.len]; exact hf.2.1
    have hsz := chk_sizes hf.1
    have HLs := Lib.hid (show (szs us).length ≤ m by rw [szs_len, ha.len]; exact Nat.le_refl _)
    have HLp := Lib.hid (show ps.length ≤ m by rw [hb.len]; exact Nat.le_refl _)
    have HS := Lib.hid (show ∀ s ∈ szs us, 1 ≤ s ∧ s ≤ 1000000 from fun s hs => hsz.mem hs)
    have HP := Lib.hid hf.2.2
    have HA := Lib.hid hv
    clear hv hf hsz
    go_enter Try.func20, Try.ntmps20
    go_wp2_with fail
    refine H1.out.mono ?_
    rintro e w1 ⟨rfl, N1⟩
    clear H1
    go_wp2
    go_loopw [6, 15] (fun s i wr => ∃ (k : Nat) (S : Int), k ≤ m ∧ i = .int .i64 (k : Nat) ∧ s = .int .i64 S ∧ S = amt ((szs us).take k) (ps.take k) ∧ 0 ≤ S ∧ S ≤ 1099511627776 ∧ Aft w1 wr) (fun _ i _ => m - (intOf i).toNat)
    case atStart => exact ⟨0, 0, Nat.zero_le _, rfl, rfl, by simp [amt], by omega, by omega, Aft.refl _⟩
    case round =>
      obtain ⟨k, S, hk, rfl, rfl, hS, h0, h1, haf⟩ := hrel
      have HSS := Lib.hid hS
      clear hS
      by_cases hlt : k < m
      · obtain ⟨b, off, u, rfl, hu, d1, d2⟩ := ha.at_ hlt
        obtain ⟨b2, off2, p, rfl, hp, d3⟩ := hb.at_ hlt
        have c2 := haf.cell (N1.cell d2)
        have c3 := haf.cell (N1.cell d3)
        dsimp only [vI] at c3
        have hki : (k : Int) < (m : Int) := by omega
        have hsz := HS.out u.2 (List.mem_of_getElem? (szs_get hu))
        have hp0 := HP.out p (List.mem_of_getElem? hp)
        have HT := Lib.hid (amt_take (szs_get hu) hp)
        have HLE := Lib.hid (fun j => amt_take_le (ss := szs us) (ps := ps) (fun s h => (HS.out s h).1) HP.out j)
        clear hu hp d1 d2 d3
        obtain ⟨hs1, hs2⟩ := hsz
        generalize u.2 = s at *
        by_cases hq : (1099511627776 : Int) < p
        · have HF := Lib.hid (join_big HA.out (show ¬ amt (szs us) ps ≤ maxC by
            have h1 := HLE.out (k + 1)
            rw [HT.out, ← HSS.out] at h1
            have h2 := le_mul hp0 hs1
            unfold maxC
            omega))
          go_wp2
          go_ret2
          exact ⟨by rw [HF.out]; rfl, N1.trans haf⟩
        · have hmb := mul_bound hp0 (by omega) (show 0 ≤ s by omega) hs2
          have hm0 := Int.mul_nonneg hp0 (show 0 ≤ s by omega)
          obtain ⟨N, hN⟩ : ∃ N, p * s = N := ⟨_, rfl⟩
          rw [hN] at hmb hm0 HT
          by_cases hq2 : (1099511627776 : Int) < S + N
          · have HF := Lib.hid (join_big HA.out (show ¬ amt (szs us) ps ≤ maxC by
              have h1 := HLE.out (k + 1)
              rw [HT.out, ← HSS.out] at h1
              unfold maxC
              omega))
            go_wp2
            go_ret2
            exact ⟨by rw [HF.out]; rfl, N1.trans haf⟩
          · go_wp2
            go_roundw
            case rel => exact ⟨k + 1, S + N, by omega, by go_num, by first | rfl | go_num, by rw [HT.out, ← HSS.out], by omega, by omega, haf⟩
            case measure => simp [intOf]; omega
      · obtain rfl : k = m := by omega
        have hE : amt (szs us) ps = S := by rw [HSS.out, amt_full HLs.out HLp.out]
        have HF := Lib.hid (join_ok HA.out (show amt (szs us) ps ≤ maxC by rw [hE]; unfold maxC; exact h1))
        have HE := Lib.hid hE
        clear hE
        go_wp2
        go_ret2
        exact ⟨by rw [HF.out, HE.out]; rfl, N1.trans haf⟩

/-- What lies where while the reference's Split runs. -/
structure RowS (w : World) (H : Nat) (d : List Int) (W : World) : Prop where
  aft : Aft w W
  row : ∀ i z, d[i]? = some z → W.cell? ⟨H, i, none⟩ = some (.int .i64 z)
  rfr : ∀ i, i < d.length → W.frozen? ⟨H, i, none⟩ = false
theorem RowS.set {w : World} {H : Nat} {d : List Int} {W : World} (h : RowS w H d W) (hH : w.heap.size ≤ H) {k : Nat} (hk : k < d.length) (z : Int) : RowS w H (d.set k z) (W.setCell ⟨H, k, none⟩ (.int .i64 z)) :=
  ⟨h.aft.setCell hH _, fun i y hi => by
    by_cases e : i = k
    · subst e
      rw [List.getElem?_set_self hk] at hi
      cases hi
      exact World.cell?_setCell_same _ _ _ (h.row i _ (List.getElem?_eq_getElem hk))
    · rw [List.getElem?_set_ne (fun q => e q.symm)] at hi
      rw [World.cell?_setCell_other _ _ _ _ (addr_ne (by omega))]
      exact h.row i y hi, fun i hi => by rw [World.frozen?_setCell]; exact h.rfr i (by simpa using hi)⟩
theorem RowS.start (n : Nat) (w : World) : RowS w w.heap.size (List.replicate n 0) (w.alloc (.cells (Array.replicate n (.int .i64 0)) 3)) :=
  ⟨(Aft.refl w).alloc _, fun i z hi => by
    have hlt : i < n := by have := (List.getElem?_eq_some_iff.1 hi).1; simpa using this
    rw [List.getElem?_replicate, if_pos hlt] at hi
    cases hi
    simp [hlt], fun i _ => by simp⟩
/-- What the row holds when the units from an index on are done. -/
def rowAt (us : List Un) (N : Int) (k : Nat) : List Int := List.replicate k 0 ++ parts ((szs us).drop k) N
theorem rowAt_len {us : List Un} {N : Int} {k : Nat} (h : k ≤ us.length) : (rowAt us N k).length = us.length := by
  unfold rowAt
  rw [List.length_append, List.length_replicate, parts_len, List.length_drop, szs_len]
  omega
theorem rowAt_step {us : List Un} {N : Int} {k : Nat} {s : Int} (h : (szs us)[k]? = some s) : (rowAt us N (k + 1)).set k ((divs ((szs us).drop (k + 1)) N).2 / s) = rowAt us N k ∧ (divs ((szs us).drop (k + 1)) N).2 % s = (divs ((szs us).drop k) N).2 := by
  unfold rowAt
  rw [drop_of_get h]
  refine ⟨?_, rfl⟩
  rw [List.replicate_succ', List.append_assoc, List.set_append_right _ _ (by simp), List.length_replicate, Nat.sub_self]
  rfl
theorem rowAt_end {us : List Un} {N : Int} {n : Nat} (h : us.length = n) : rowAt us N n = List.replicate n 0 ∧ (divs ((szs us).drop n) N).2 = N := by
  unfold rowAt
  rw [List.drop_of_length_le (by rw [szs_len, h]; exact Nat.le_refl _)]
  exact ⟨by simp [parts, divs], rfl⟩

set_option maxRecDepth 100000 in
set_option maxHeartbeats 1600000 in
theorem refSplit_any (A : Option Addr) (n c : Nat) (us : List Un) (N : Int) (w : World) (ha : Ul w A n c us) :
    Calls Try.prog 15 #[.slice A n c, .int .i64 N] w (ListRes w (splitV us N).1 (splitV us N).2) := by
  have H1 := Lib.hid (refCheck_any A n c us w ha)
  cases hc : chk us
  · rw [hc] at H1
    have HV := Lib.hid (split_no1 (us := us) N hc)
    clear ha hc
    go_enter Try.func15, Try.ntmps15
    go_wp2_with fail
    refine H1.out.mono ?_
    rintro e w1 ⟨rfl, N1⟩
    clear H1
    go_wp2
    go_ret2
    exact ⟨by rw [HV.out]; exact ⟨none, 0, 0, rfl, Rw.nil⟩, N1⟩
  · rw [hc] at H1
    by_cases h0 : N < 0
    · have HV := Lib.hid (split_no2 (us := us) h0)
      clear ha hc
      go_enter Try.func15, Try.ntmps15
      go_wp2_with fail
      refine H1.out.mono ?_
      rintro e w1 ⟨rfl, N1⟩
      clear H1
      go_wp2
      go_ret2
      exact ⟨by rw [HV.out]; exact ⟨none, 0, 0, rfl, Rw.nil⟩, N1⟩
    · by_cases h1 : (1099511627776 : Int) < N
      · have HV := Lib.hid (split_no3 hc h0 h1)
        clear ha hc
        go_enter Try.func15, Try.ntmps15
        go_wp2_with fail
        refine H1.out.mono ?_
        rintro e w1 ⟨rfl, N1⟩
        clear H1
        go_wp2
        go_ret2
        exact ⟨by rw [HV.out]; exact ⟨none, 0, 0, rfl, Rw.nil⟩, N1⟩
      · have HV := Lib.hid (splitV_ok hc (show 0 ≤ N by omega) (show N ≤ maxC by unfold maxC; omega))
        have hs := chk_sizes hc
        have hn8 : n ≤ 12 := by have h := hs.le; rw [List.length_map, ha.len] at h; omega
        have hac := ha.le
        have hcm := ha.cmax
        have hmx := ha.max
        have HU := Lib.hid (show ∀ s ∈ szs us, 1 ≤ s from fun s hx => (hs.mem hx).1)
        have HLn := Lib.hid ha.len
        obtain ⟨i0, hi, hz0, hz1, hz2⟩ := info_parts Try.infoI
        have hmk : ∀ w', (Instr.makeSlice 25 (.int .i64 (n : Int)) (.int .i64 (n : Int))).run Try.prog w' = .ok (.slice (some ⟨w'.heap.size, 0, none⟩) n n) (w'.alloc (.cells (List.replicate n (Value.int .i64 0)).toArray 3)) := by
          intro w'
          have h := run_makeSlice (P := Try.prog) (w := w') 25 3 i0 (.int .i64 0) Try.underlying25 hi hz0 .i64 .i64 (n : Int) (n : Int) (by omega) (Int.le_refl _) (by rw [hz1, Int.toNat_natCast]; omega) (by rw [hz2]; omega) (by omega)
          rw [hz1, Int.toNat_natCast, Nat.mul_one, made_ints] at h
          exact h
        clear hc hs
        go_enter Try.func15, Try.ntmps15
        go_wp2_with fail
        refine H1.out.mono ?_
        rintro e w1 ⟨rfl, N1⟩
        clear H1
        have hst := RowS.start n w1
        go_wp2
        clear hmk
        generalize w1.alloc (.cells (Array.replicate n (.int .i64 0)) 3) = W1 at *
        generalize hH : w1.heap.size = H at *
        have HH := Lib.hid (show w1.heap.size ≤ H by omega)
        clear hH
        have HST := Lib.hid hst
        clear hst
        go_loopw [1, 7] (fun r i wr => ∃ (k : Nat) (z R : Int), k ≤ n ∧ z = (k : Int) - 1 ∧ i = .int .i64 z ∧ r = .int .i64 R ∧ R = (divs ((szs us).drop k) N).2 ∧ 0 ≤ R ∧ R ≤ 1099511627776 ∧ RowS w1 H (rowAt us N k) wr) (fun _ i _ => (intOf i + 1).toNat)
        case atStart => exact ⟨n, _, N, Nat.le_refl _, rfl, rfl, rfl, (rowAt_end HLn.out).2.symm, by omega, by omega, by rw [(rowAt_end HLn.out).1]; exact HST.out⟩
        case round =>
          obtain ⟨k, z, R, hk, hz, rfl, rfl, hR, r0, r1, hrow⟩ := hrel
          have HR := Lib.hid hR
          have HRow := Lib.hid hrow
          clear hR hrow
          cases k with
          | zero =>
            obtain rfl : z = -1 := by omega
            clear hz
            have HRw := Lib.hid (show Rw vI wr (some ⟨H, 0, none⟩) n n (parts (szs us) N) from ⟨by rw [parts_len, szs_len, HLn.out], Nat.le_refl _, by omega, fun e => (by cases e), fun i y hy => ⟨H, 0, rfl, by rw [Nat.zero_add]; exact HRow.out.row i y (by unfold rowAt; simpa using hy)⟩⟩)
            go_wp2
            go_ret2
            exact ⟨by rw [HV.out]; exact ⟨some ⟨H, 0, none⟩, n, n, rfl, HRw.out⟩, N1.trans HRow.out.aft⟩
          | succ k =>
            obtain rfl : z = (k : Int) := by omega
            clear hz
            have hlt : k < n := by omega
            obtain ⟨b, off, u, rfl, hu, d1, d2⟩ := ha.at_ hlt
            have c2 := HRow.out.aft.cell (N1.cell d2)
            have hki : (k : Int) < (n : Int) := by omega
            have hwk : IntKind.i64.wrap (k : Int) = (k : Int) := wrap_small _ (by omega) (by omega)
            have hs1 := HU.out u.2 (List.mem_of_getElem? (szs_get hu))
            have hlr : k < (rowAt us N (k + 1)).length := by rw [rowAt_len (by rw [HLn.out]; exact hk), HLn.out]; exact hlt
            have q2 := HRow.out.row k _ (List.getElem?_eq_getElem hlr)
            have q3 := HRow.out.rfr k hlr
            have HS := Lib.hid (rowAt_step (N := N) (szs_get hu))
            have HSet := Lib.hid (fun y => HRow.out.set HH.out hlr y)
            have e1 := emod_le' (s := u.2) R r0
            have e2 := Int.emod_nonneg R (show u.2 ≠ 0 by omega)
            have hne : ¬ u.2 = 0 := by omega
            clear hu d1 d2
            generalize u.2 = s at *
            go_wp2
            go_roundw
            case rel =>
              refine ⟨k, _, R % s, by omega, rfl, rfl, rfl, ?_, by omega, by omega, ?_⟩
              · rw [HR.out]; exact HS.out.2
              · have h := HSet.out (R / s)
                rw [HR.out, HS.out.1, ← HR.out] at h
                exact h
            case measure => simp [intOf]
end Go.Proofs.Yteknfigpjhngfaa
