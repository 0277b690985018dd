/-
  sum and divide: the amount of parts, the parts of an amount. Conditions: the slices hold units of sizes from 1 to 1000000 and parts; the amount is from 0 to 2^62.
-/
import Derived.Test.YteknfigpjhngfaaMeasChk
import Derived.RangeFuncNested
import Derived.RangeFuncBound
import Derived.RangeFuncCalls
import Derived.RangeFuncLeaves
import Derived.RangeFuncWrites
import Derived.Shelf.Abstract
import Derived.Shelf.RegionOpen
import Derived.OwnWalkIn
import Derived.TacticsInMore
import Derived.LoopNIn
import Derived.LoopIn
import Derived.Laws.MakeOwn
namespace Go.Proofs.Yteknfigpjhngfaa
open Go.RowKit Go.Shelf
open MeasPlain

attribute [local go_sem] Oper.semAt_some

/-- What sum returns. -/
def sumN (us : List Un) (ps : List Int) : Int := if amt (szs us) ps ≤ maxC then amt (szs us) ps else 0
def sumOk (us : List Un) (ps : List Int) : Bool := decide (amt (szs us) ps ≤ maxC)
theorem sum_no {us : List Un} {ps : List Int} (h : ¬ amt (szs us) ps ≤ maxC) : sumN us ps = 0 ∧ sumOk us ps = false := ⟨if_neg h, decide_eq_false h⟩
theorem sum_yes {us : List Un} {ps : List Int} (h : amt (szs us) ps ≤ maxC) : sumN us ps = amt (szs us) ps ∧ sumOk us ps = true := ⟨if_pos h, decide_eq_true h⟩
theorem mul_le_of {p s M : Int} (hs : 1 ≤ s) (h : ¬ M / s < p) : p * s ≤ M := (Int.le_ediv_iff_mul_le (by omega)).1 (by omega)
theorem lt_mul_of {p s M : Int} (hs : 1 ≤ s) (h : M / s < p) : M < p * s := by
  have := (Int.ediv_lt_iff_lt_mul (a := M) (b := p) (show 0 < s by omega)).1 h
  exact this

set_option maxRecDepth 100000 in
set_option maxHeartbeats 1600000 in
theorem sum_any (B : Option Addr) (n d : Nat) (ps : List Int) (A : Option Addr) (c : Nat) (us : List Un) (w : World) (hb : Rw vI w B n d ps) (ha : Ul w A n c us) (hs : ∀ s ∈ szs us, 1 ≤ s ∧ s ≤ 1000000) (hp : ∀ p ∈ ps, 0 ≤ p) :
    Calls Try.prog 32 #[.slice B n d, .slice A n c] w (fun e w' => e = .returned (.tuple #[.int .i64 (sumN us ps), .bool (sumOk us ps)]) ∧ Aft w w') := by
  have hac := ha.le
  have hcm := ha.cmax
  have hmx := ha.max
  have hbd := hb.le
  have hbm := hb.cmax
  have HLs := Lib.hid (show (szs us).length ≤ n by rw [szs_len, ha.len]; exact Nat.le_refl _)
  have HLp := Lib.hid (show ps.length ≤ n by rw [hb.len]; exact Nat.le_refl _)
  have HS := Lib.hid hs
  have HP := Lib.hid hp
  clear hs hp
  go_enter Try.func32, Try.ntmps32
  go_wp2
  go_loopw [6, 11] (fun s i wr => ∃ (k : Nat) (S : Int), k ≤ n ∧ i = .int .i64 (k : Nat) ∧ s = .int .i64 S ∧ S = amt ((szs us).take k) (ps.take k) ∧ 0 ≤ S ∧ S ≤ 1099511627776 ∧ Aft w wr) (fun _ i _ => n - (intOf i).toNat)
  case atStart => exact ⟨0, 0, Nat.zero_le _, rfl, rfl, by simp [amt], by omega, by omega, Aft.refl _⟩
  case round =>
    obtain ⟨k, S, hk, rfl, rfl, hS, h0, h1, haf⟩ := hrel
    have HSS := Lib.hid hS
    clear hS
    by_cases hlt : k < n
    · obtain ⟨b, off, u, rfl, hu, d1, d2⟩ := ha.at_ hlt
      obtain ⟨b2, off2, p, rfl, hp, d3⟩ := hb.at_ hlt
      have c1 := haf.cell d1
      have c2 := haf.cell d2
      have AL : Aft wr (wr.alloc (.cells #[.string u.1, .int .i64 u.2] 44)) := (Aft.refl wr).alloc _
      obtain ⟨t0, t1⟩ := two_cells wr (.string u.1) (.int .i64 u.2) 44
      have c3 := AL.cell (haf.cell d3)
      dsimp only [vI] at c3
      have hki : (k : Int) < (n : Int) := by omega
      have hwk : IntKind.i64.wrap (k : Int) = (k : Int) := wrap_small _ (by omega) (by omega)
      have hsz := HS.out u.2 (List.mem_of_getElem? (szs_get hu))
      have hp0 := HP.out p (List.mem_of_getElem? hp)
      have HT := Lib.hid (amt_take (szs_get hu) hp)
      have HLE := Lib.hid (fun j => amt_take_le (ss := szs us) (ps := ps) (fun s h => (HS.out s h).1) HP.out j)
      clear hu hp d1 d2 d3
      obtain ⟨hs1, hs2⟩ := hsz
      generalize u.2 = s at *
      generalize u.1 = nm at *
      by_cases hq : (1099511627776 - S) / s < p
      · have HQ := Lib.hid (lt_mul_of hs1 hq)
        have HF := Lib.hid (sum_no (show ¬ amt (szs us) ps ≤ maxC by
          have h1 := HLE.out (k + 1)
          rw [HT.out, ← HSS.out] at h1
          have h2 := HQ.out
          unfold maxC
          omega))
        go_wp2
        go_quiet (fail)
        go_wp2
        go_ret2
        exact ⟨by rw [HF.out.1, HF.out.2]; rfl, (haf.trans AL).drewN _⟩
      · have HQ := Lib.hid (mul_le_of hs1 hq)
        have HZ := Lib.hid (Int.mul_nonneg hp0 (show 0 ≤ s by omega))
        obtain ⟨N, hN⟩ : ∃ N, p * s = N := ⟨_, rfl⟩
        rw [hN] at HQ HZ HT
        have hN0 := HZ.out
        have hN1 := HQ.out
        go_wp2
        go_quiet (fail)
        go_wp2
        go_quiet (fail)
        go_wp2
        go_roundw
        case rel => exact ⟨k + 1, S + N, by omega, by go_num, by first | rfl | go_num, by rw [HT.out, ← HSS.out], by omega, by omega, (haf.trans AL).drewN _⟩
        case measure => simp [intOf]; omega
    · obtain rfl : k = n := by omega
      have hE : amt (szs us) ps = S := by rw [HSS.out, amt_full HLs.out HLp.out]
      have HF := Lib.hid (sum_yes (show amt (szs us) ps ≤ maxC by rw [hE]; unfold maxC; exact h1))
      have HE := Lib.hid hE
      clear hE
      go_wp2
      go_ret2
      exact ⟨by rw [HF.out.1, HF.out.2, HE.out]; rfl, haf⟩
end Go.Proofs.Yteknfigpjhngfaa
