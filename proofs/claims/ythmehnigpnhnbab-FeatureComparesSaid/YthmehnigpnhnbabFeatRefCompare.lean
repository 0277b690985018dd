/-
  The reference's Compare and order give the same numbers as the program's Compare. Condition: the slices hold the features.
-/
import Derived.Test.YthmehnigpnhnbabFeatCompare
namespace Go.Proofs.Ythmehnigpnhnbab
open Go.RowKit
open FeatPlain

theorem cmpS_less {a b : ByteArray} (h : lt a b = true) : cmpS a b = -1 := by rw [cmpS, if_pos h]
theorem cmpS_more {a b : ByteArray} (h : lt b a = true) : cmpS a b = 1 := by rw [cmpS, if_neg (by simp [lt_asymm h]), if_pos h]
theorem cmpS_refl (a : ByteArray) : cmpS a a = 0 := by simp [cmpS, lt_irrefl]
theorem cmpS_zero {a b : ByteArray} : cmpS a b = 0 ↔ a = b := by
  constructor
  · intro h
    unfold cmpS at h
    split at h
    · cases h
    · split at h
      · cases h
      · exact lt_total (by simp_all) (by simp_all)
  · rintro rfl; exact cmpS_refl _

set_option maxHeartbeats 400000 in
theorem order_any (a b : ByteArray) (w : World) : Calls Try.prog 51 #[.string a, .string b] w fun e w' => e = .returned (.int .i64 (cmpS a b)) ∧ w' = w := by
  by_cases h1 : lt a b = true
  · have b1 : Op.bytesLess a.toList b.toList = true := h1
    go_enter Try.func51, Try.ntmps51
    go_wp2
    go_ret
    exact ⟨by rw [cmpS_less h1]; rfl, rfl⟩
  · have b1 : Op.bytesLess a.toList b.toList = false := by simpa [lt] using h1
    by_cases h2 : a = b
    · have b2 : (a.toList == b.toList) = true := by rw [h2]; simp
      have H2 := Lib.hid h2
      clear h2
      go_enter Try.func51, Try.ntmps51
      go_wp2
      go_ret
      exact ⟨by rw [cmpS_zero.2 H2.out]; rfl, rfl⟩
    · have b2 : (a.toList == b.toList) = false := by rw [toList_beq]; simp [h2]
      have h3 : lt b a = true := by
        cases e : lt b a
        · exact absurd (lt_total (by simpa using h1) e) h2
        · rfl
      go_enter Try.func51, Try.ntmps51
      go_wp2
      go_ret
      exact ⟨by rw [cmpS_more h3]; rfl, rfl⟩

theorem cmpF_name {f g : Ft} (h : f.1 ≠ g.1) : cmpF f g = cmpS f.1 g.1 ∧ cmpF f g ≠ 0 := by
  have h0 : cmpS f.1 g.1 ≠ 0 := fun e => h (cmpS_zero.1 e)
  have e : cmpF f g = cmpS f.1 g.1 := by rw [cmpF, orI_not h0]
  exact ⟨e, by rw [e]; exact h0⟩
theorem cmpF_value {f g : Ft} (h : f.1 = g.1) (k : f.2 ≠ g.2) : cmpF f g = cmpS f.2 g.2 ∧ cmpF f g ≠ 0 := by
  have h0 : cmpS f.2 g.2 ≠ 0 := fun e => k (cmpS_zero.1 e)
  have e : cmpF f g = cmpS f.2 g.2 := by rw [cmpF, orI_zero (cmpS_zero.2 h)]
  exact ⟨e, by rw [e]; exact h0⟩
theorem cmpF_same {f g : Ft} (h : f.1 = g.1) (k : f.2 = g.2) : cmpF f g = 0 := by rw [cmpF, orI_zero (cmpS_zero.2 h), cmpS_zero.2 k]

set_option maxRecDepth 100000 in
set_option maxHeartbeats 3200000 in
theorem refComp_any (A : Option Addr) (n c : Nat) (xs : List Ft) (B : Option Addr) (m d : Nat) (ys : List Ft) (w : World) (ha : Sl w A n c xs) (hb : Sl w B m d ys) :
    Calls Try.prog 28 #[.slice A n c, .slice B m d] w (IntPost w (cmpL xs ys)) := by
  have hn := ha.max
  have hnc := ha.le
  have hm := hb.max
  have hmd := hb.le
  have hlen := Lib.hid ha.len
  have hlenb := Lib.hid hb.len
  go_enter Try.func28, Try.ntmps28
  go_wp2
  go_loopw [5] (fun i wr => ∃ k, k ≤ n ∧ k ≤ m ∧ i = .int .i64 (k : Nat) ∧ cmpL xs ys = cmpL (xs.drop k) (ys.drop k) ∧ Aft w wr) (fun i _ => n - (intOf i).toNat)
  case atStart => exact ⟨0, Nat.zero_le _, Nat.zero_le _, rfl, by simp, Aft.refl _⟩
  case round =>
    obtain ⟨k, hk, hkm, rfl, he, haf⟩ := hrel
    have HE := Lib.hid he
    clear he
    by_cases hlt : k < n
    · obtain ⟨b, off, f, rfl, hf, h1, h2⟩ := ha.at_ hlt
      have c1 := haf.cell h1
      have c2 := haf.cell h2
      have HF := Lib.hid hf
      clear hf h1 h2
      by_cases hlm : k < m
      · obtain ⟨b', off', g, rfl, hg, g1, g2⟩ := hb.at_ hlm
        have d1 := haf.cell g1
        have d2 := haf.cell g2
        have HG := Lib.hid hg
        clear hg g1 g2
        have hki : (k : Int) < (n : Int) := by omega
        have hkj : (k : Int) < (m : Int) := by omega
        by_cases e1 : f.1 = g.1
        · have q1 : (f.1.toList == g.1.toList) = true := by rw [e1]; simp
          have E1 := Lib.hid e1
          clear e1
          by_cases e2 : f.2 = g.2
          · have q2 : (f.2.toList == g.2.toList) = true := by rw [e2]; simp
            have E2 := Lib.hid e2
            clear e2
            go_wp2
            go_quiet (fail)
            go_wp2
            go_quiet (fail)
            go_wp2
            go_roundw
            case rel => exact ⟨k + 1, by omega, by omega, by go_num, by rw [HE.out, cmpL_one HF.out HG.out, orI_zero (cmpF_same E1.out E2.out)], haf.drewN _⟩
            case measure => simp [intOf]; omega
          · have q2 : (f.2.toList == g.2.toList) = false := by rw [toList_beq]; simp [e2]
            have E2 := Lib.hid e2
            clear e2
            go_wp2
            go_quiet (fail)
            go_wp2
            have hA2 : Aft wr (wr.drewN nq) := (Aft.refl wr).drewN _
            have c2' := hA2.cell c2
            have d2' := hA2.cell d2
            generalize wr.drewN nq = W at hA2 c2' d2' ⊢
            go_quiet (fail)
            go_wp2
            have hA3 : Aft W (W.drewN nq) := (Aft.refl W).drewN _
            have c3' := hA3.cell c2'
            have d3' := hA3.cell d2'
            generalize W.drewN nq = W2 at hA3 c3' d3' ⊢
            go_quiet ((go_at_call 51; exact Calls.quiet_of_same (order_any _ _ _)))
            go_wp2
            go_ret
            exact ⟨by rw [HE.out, cmpL_one HF.out HG.out, orI_not (cmpF_value E1.out E2.out).2, (cmpF_value E1.out E2.out).1]; rfl, ((haf.trans hA2).trans hA3).drewN _⟩
        · have q1 : (f.1.toList == g.1.toList) = false := by rw [toList_beq]; simp [e1]
          have E1 := Lib.hid e1
          clear e1
          go_wp2
          go_quiet (fail)
          go_wp2
          have hA2 : Aft wr (wr.drewN nq) := (Aft.refl wr).drewN _
          have c1' := hA2.cell c1
          have d1' := hA2.cell d1
          generalize wr.drewN nq = W at hA2 c1' d1' ⊢
          go_quiet ((go_at_call 51; exact Calls.quiet_of_same (order_any _ _ _)))
          go_wp2
          go_ret
          exact ⟨by rw [HE.out, cmpL_one HF.out HG.out, orI_not (cmpF_name E1.out).2, (cmpF_name E1.out).1]; rfl, (haf.trans hA2).drewN _⟩
      · go_wp2
        go_ret
        exact ⟨by rw [HE.out, cmpL_longer HF.out (by rw [hlenb.out]; omega)]; rfl, haf⟩
    · obtain rfl : k = n := by omega
      by_cases hlm : k < m
      · go_wp2
        go_ret
        exact ⟨by rw [HE.out, cmpL_shorter (by rw [hlen.out]; exact Nat.le_refl _) (by rw [hlenb.out]; exact hlm)]; rfl, haf⟩
      · go_wp2
        go_ret
        exact ⟨by rw [HE.out, cmpL_same (by rw [hlen.out]; exact Nat.le_refl _) (by rw [hlenb.out]; omega)]; rfl, haf⟩
end Go.Proofs.Ythmehnigpnhnbab
