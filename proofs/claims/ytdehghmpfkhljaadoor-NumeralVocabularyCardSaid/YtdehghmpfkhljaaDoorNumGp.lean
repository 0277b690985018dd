/-
  greatestPower; the closure of speller at digits. Conditions: as each theorem says.
-/
import Derived.Test.YtdehghmpfkhljaaDoorNumCol
import Derived.Test.YtdehghmpfkhljaaDoorRegion
namespace Go.Proofs.YtdehghmpfkhljaaDoor
open Go.RowKit
open NumPlain

theorem pow_bounds {b k : Nat} (hb : b = 10 ∨ b = 20) (hk : k ≤ 3) : 1 ≤ b ^ k ∧ b ^ k ≤ 8000 := by
  have h4 : k = 0 ∨ k = 1 ∨ k = 2 ∨ k = 3 := by omega
  rcases hb with rfl | rfl <;> rcases h4 with rfl | rfl | rfl | rfl <;> decide
theorem pow_le {b j k : Nat} (hb : b = 10 ∨ b = 20) (h : j ≤ k) : b ^ j ≤ b ^ k := Nat.pow_le_pow_right (by omega) h

set_option maxHeartbeats 1600000 in
theorem gp_any (b k n PK : Nat) (w : World) (hPK : b ^ (k + 1) = PK) (hb : b = 10 ∨ b = 20) (hk : k ≤ 2) (h1 : b ^ (k + 1) ≤ n) (h2 : n < b ^ (k + 2)) :
    Calls Tryd.prog 51 #[.int .i64 (b : Int), .int .i64 (n : Int)] w (fun e w' => e = .returned (.tuple #[.int .i64 (k : Nat), .int .i64 (PK : Int)]) ∧ w = w') := by
  have HB := Lib.hid hb
  have HPK := Lib.hid hPK
  have H1 := Lib.hid h1
  have H2 := Lib.hid h2
  have hb20 : b ≤ 20 := by omega
  clear hb h1 h2 hPK
  go_enter Tryd.func51, Tryd.ntmps51
  go_wp2
  go_loopw [4, 5] (fun i p wr => ∃ j P : Nat, j ≤ k ∧ i = .int .i64 (j : Nat) ∧ p = .int .i64 (P : Nat) ∧ P = b ^ (j + 1) ∧ w = wr) (fun i _ _ => k - (intOf i).toNat)
  case atStart => exact ⟨0, b, Nat.zero_le _, rfl, rfl, by simp, rfl⟩
  case round =>
    obtain ⟨j, P, hj, rfl, rfl, hP, rfl⟩ := hrel
    have HPw := Lib.hid hP
    have hP1 : P ≤ 8000 := by rw [hP]; exact (pow_bounds HB.out (by omega)).2
    obtain ⟨P2, hP2⟩ : ∃ P2, P2 = b ^ (j + 1 + 1) := ⟨_, rfl⟩
    have hmul : P * b = P2 := by rw [hP2, hP, ← Nat.pow_succ]
    have hm' : (P : Int) * (b : Int) = (P2 : Int) := by rw [← hmul]; simp
    have hP3 : P2 ≤ 160000 := by rw [← hmul]; exact Nat.mul_le_mul hP1 hb20
    have HP2 := Lib.hid hP2
    clear hP hP2 hmul
    by_cases hlt : j < k
    · have hle : (P2 : Int) ≤ (n : Int) := by
        have h := pow_le HB.out (show j + 1 + 1 ≤ k + 1 by omega)
        rw [← HP2.out] at h
        have := H1.out
        omega
      go_wp2
      go_roundw
      case rel => exact ⟨j + 1, P2, by omega, by go_num, by first | rfl | go_num, HP2.out, trivial⟩
      case measure => simp [intOf]; omega
    · obtain rfl : j = k := by omega
      have hle : ¬ (P2 : Int) ≤ (n : Int) := by
        have h := H2.out
        rw [show j + 2 = j + 1 + 1 from rfl, ← HP2.out] at h
        omega
      obtain rfl : P = PK := by rw [HPw.out]; exact HPK.out
      go_wp2
      go_ret2
      exact ⟨rfl, rfl⟩

/-- What the closure of speller has captured. -/
structure Spl (w : World) (Bs Bw : Nat) (x : Nm) : Prop where
  box : Bx w Bs x
  fn : w.cell? ⟨Bw, 0, none⟩ = some (.func (.func 50) #[] #[.pointer (some ⟨Bs, 0, none⟩), .pointer (some ⟨Bw, 0, none⟩)])
  wds : Nw w x
theorem Spl.aft {w w' : World} {Bs Bw : Nat} {x : Nm} (h : Spl w Bs Bw x) (k : Aft w w') : Spl w' Bs Bw x := ⟨h.box.aft k, k.cell h.fn, h.wds.aft k⟩
theorem enterW (args : Array Value) (w : World) : (callFunc 50 args).run Tryd.prog w = .ok (.enter 50 args) w := by go_simp
theorem one_lls {w : World} {X : Option Addr} {n c : Nat} {l : List BA} (h : Rw sV w X n c l) (t : TypeId) : Lls (w.alloc (.cells #[.slice X n c] t)) (some ⟨w.heap.size, 0, none⟩) 1 1 [⟨X, n, c, l⟩] :=
  ⟨lit_rw (enc := Lk.enc) w t [⟨X, n, c, l⟩] (by simp), fun y hy => by rw [List.mem_singleton.1 hy]; exact h.aft ((Aft.refl w).alloc _)⟩

set_option maxHeartbeats 1600000 in
theorem dig_any (x : Nm) (hx : Ok x) (n : Nat) (hn : n < bs x) (Bs Bw : Nat) (w : World) (h : Spl w Bs Bw x) :
    Calls Tryd.prog 50 #[.int .i64 (n : Int), .pointer (some ⟨Bs, 0, none⟩), .pointer (some ⟨Bw, 0, none⟩)] w (SlPost w (dig x n)) := by
  obtain ⟨hb, hf, hw⟩ := h
  have hbs := hx.bs
  have hbase : x.base = (bs x : Int) := by unfold bs; rcases hx.base with h | h <;> rw [h] <;> rfl
  have hdn : x.dn = bs x := by have := hx.dn; omega
  have hdc := hw.rd.le
  have hdm := hw.rd.cmax
  have c0 := hb.c0
  have c1 := hb.c1
  rw [hbase] at c0
  obtain ⟨b, off, s, hA, hs, _⟩ := hw.rd.at_ (show n < x.dn by omega)
  have hrd := hw.rd
  rw [hA] at c1 hrd
  have hone := Rw.one hrd hs
  have HD := Lib.hid (show dig x n = col [[s]] by unfold dig; rw [show x.ds.getD n ByteArray.empty = s by simp [List.getD, hs]])
  have HO := Lib.hid hone
  have hnb : (n : Int) < (bs x : Int) := by omega
  have hnc1 : (n : Int) + 1 ≤ (x.dn : Int) := by omega
  have hnc : ¬ x.dc = n := by omega
  have hnd : (n : Int) ≤ (x.dc : Int) := by omega
  have hnd1 : (n : Int) + 1 ≤ (x.dc : Int) := by omega
  clear hb hf hw hone hs hx hbase hrd
  generalize bs x = B at *
  generalize x.dn = dn at *
  generalize x.dc = dc at *
  go_enter Tryd.func50, Tryd.ntmps50
  go_wp2_with fail
  refine (collect_any _ 1 1 [⟨some ⟨b, off + n, none⟩, 1, dc - n, [s]⟩] _ (one_lls HO.out 22) (by simp [lists])).mono ?_
  rintro e w1 ⟨⟨X, nx, cx, rfl, hr⟩, N1⟩
  have HR := Lib.hid hr
  clear hr
  go_wp2
  go_ret
  exact ⟨⟨X, nx, cx, rfl, by rw [HD.out]; exact HR.out⟩, ((Aft.refl w).alloc _).trans N1⟩
end Go.Proofs.YtdehghmpfkhljaaDoor
