/-
  The closure of eachHead: it calls the function that it captured with a quotient's multiple and each remainder. Conditions: as the theorem says.
-/
import Derived.Test.YtdehghmpfkhljaaDoorNumKeep5
namespace Go.Proofs.YtdehghmpfkhljaaDoor
open Go.RowKit
open NumPlain

theorem enterH1 (args : Array Value) (w : World) : (callFunc 73 args).run Tryd.prog w = .ok (.enter 73 args) w := by go_simp

set_option maxRecDepth 100000 in
set_option maxHeartbeats 1600000 in
theorem head1_any (g : Nat) (lb : Array Value) (B ob : Nat) (Need : Nat → Prop) (w0 w1 : World) (Z : Int → Prop) (K K' : Nat) (f : Int → List Int) (M : Nat) (hf : ∀ z, (f z).length ≤ M) (hcf : ∀ args w, (callFunc g args).run Tryd.prog w = .ok (.enter g args) w)
    (hk : KV g lb B ob Need w0 Z K f) (hfx : Fix Need w0 w1) (hb : Below B w0 w1) (br bk bp : Nat) (X : Option Addr) (nr cr : Nat) (rems : List Int) (p : Int) (cR : w1.cell? ⟨br, 0, none⟩ = some (.slice X nr cr)) (ck : w1.cell? ⟨bk, 0, none⟩ = some (.func (.func g) #[] lb)) (cp : w1.cell? ⟨bp, 0, none⟩ = some (.int .i64 p))
    (hrow : Rw vI w1 X nr cr rems) (hp : ∀ q, Dz q → 0 ≤ q * p ∧ q * p ≤ 160000) (hrm : ∀ r ∈ rems, 0 ≤ r ∧ r ≤ 9999) (hZ : ∀ q r, Dz q → 0 ≤ r → r ≤ 9999 → Z (q * p + r)) (hK : K' + nr * M ≤ K) :
    KV 73 #[.pointer (some ⟨br, 0, none⟩), .pointer (some ⟨bk, 0, none⟩), .pointer (some ⟨bp, 0, none⟩)] B ob (fun k => Need k ∨ k = br ∨ k = bk ∨ k = bp ∨ (0 < nr ∧ ∃ o, X = some ⟨k, o, none⟩)) w1 Dz K' (fun q => rems.flatMap (fun r => f (q * p + r))) := by
  intro Pr l q W hn hfx1 hb1 hst hq hl
  have cRW := hfx1.cell (.inr (.inl rfl)) cR
  have ckW := hfx1.cell (.inr (.inr (.inl rfl))) ck
  have cpW := hfx1.cell (.inr (.inr (.inr (.inl rfl)))) cp
  have hle := hrow.le
  have hcm := hrow.cmax
  have HLN := Lib.hid hrow.len
  have HP := Lib.hid (show Pr br ∧ Pr bk ∧ Pr bp from ⟨hn br (.inr (.inl rfl)), hn bk (.inr (.inr (.inl rfl))), hn bp (.inr (.inr (.inr (.inl rfl))))⟩)
  have HQ := Lib.hid (hp q hq)
  have HZ := Lib.hid (fun r => hZ q r hq)
  have HRM := Lib.hid hrm
  have HK := Lib.hid hk
  have HF := Lib.hid hf
  have HN := Lib.hid hn
  have HFX := Lib.hid (show Fix Need w0 W from hfx.trans (hfx1.sub (fun k h => .inl h)))
  have HB := Lib.hid (hb.trans hb1)
  have HFX1 := Lib.hid hfx1
  have HROW := Lib.hid hrow
  have HST := Lib.hid hst
  have HCW := Lib.hid (show W.cell? ⟨bk, 0, none⟩ = some (.func (.func g) #[] lb) ∧ W.cell? ⟨bp, 0, none⟩ = some (.int .i64 p) from ⟨ckW, cpW⟩)
  clear hfx hb hk hf hp hrm hZ hn hfx1 hb1 hst hrow cR ck cp ckW cpW hq
  go_enter Tryd.func73, Tryd.ntmps73
  go_wp2
  go_loopw [9] (fun i wr => ∃ k : Nat, k ≤ nr ∧ i = .int .i64 (k : Nat) ∧ St B ob Pr (l ++ (rems.take k).flatMap (fun r => f (q * p + r))) wr ∧ Fix Pr W wr ∧ Below B W wr) (fun i _ => nr - (intOf i).toNat)
  case atStart => exact ⟨0, Nat.zero_le _, rfl, by simpa using HST.out, Fix.refl _ _, Below.refl _ _⟩
  case round =>
    obtain ⟨k, hk, rfl, hs, hfix, hbel⟩ := hrel
    have HS := Lib.hid hs
    have HFI := Lib.hid hfix
    have HBE := Lib.hid hbel
    clear hs hfix hbel
    by_cases hlt : k < nr
    · obtain ⟨b, off, r, rfl, hr, g1⟩ := HROW.out.at_ hlt
      have PB : Pr b := HN.out b (.inr (.inr (.inr (.inr ⟨by omega, off, rfl⟩))))
      have c1 : wr.cell? ⟨b, off + k, none⟩ = some (.int .i64 r) := HFI.out.cell PB (HFX1.out.cell (.inr (.inr (.inr (.inr ⟨by omega, off, rfl⟩)))) g1)
      have ck := HFI.out.cell HP.out.2.1 HCW.out.1
      have cp := HFI.out.cell HP.out.2.2 HCW.out.2
      have hki : (k : Int) < (nr : Int) := by omega
      have hr9 := HRM.out r (List.mem_of_getElem? hr)
      have hq9 := HQ.out
      have HT := Lib.hid (take_next hr)
      have hlen : (l ++ (rems.take k).flatMap (fun r => f (q * p + r))).length ≤ K := by
        have h1 := flat_len (fun r => f (q * p + r)) M (fun r => HF.out _) (rems.take k)
        have h2 := Nat.mul_le_mul_right M (show (rems.take k).length ≤ nr by simp; omega)
        rw [List.length_append]
        omega
      have HC := Lib.hid (HK.out Pr _ (q * p + r) wr (fun j h => HN.out j (.inl h)) (HFX.out.trans (HFI.out.sub (fun j h => HN.out j (.inl h)))) (HB.out.trans HBE.out) HS.out (HZ.out r hr9.1 hr9.2) hlen)
      have e1 : -9223372036854775808 ≤ q * p := by omega
      have e2 : q * p ≤ 9223372036854775807 := by omega
      have e3 : -9223372036854775808 ≤ q * p + r := by omega
      have e4 : q * p + r ≤ 9223372036854775807 := by omega
      clear hr g1 hlen hr9 hq9 PB
      go_wp2_with fail
      refine HC.out.mono ?_
      rintro e w3 ⟨rfl, h1, h2, h3⟩
      have H1 := Lib.hid h1
      have H2 := Lib.hid h2
      have H3 := Lib.hid h3
      clear h1 h2 h3 HC
      go_wp2
      go_roundw
      case rel => exact ⟨k + 1, by omega, by go_num, by rw [HT.out, List.flatMap_append, ← List.append_assoc]; simpa using H1.out, HFI.out.trans H2.out, HBE.out.trans H3.out⟩
      case measure => simp [intOf]; omega
    · obtain rfl : k = nr := by omega
      have HE := Lib.hid (show rems.take k = rems from List.take_of_length_le (by rw [HLN.out]; exact Nat.le_refl _))
      go_wp2
      go_end0
      exact ⟨rfl, by rw [← HE.out]; exact HS.out, HFI.out, HBE.out⟩
end Go.Proofs.YtdehghmpfkhljaaDoor
