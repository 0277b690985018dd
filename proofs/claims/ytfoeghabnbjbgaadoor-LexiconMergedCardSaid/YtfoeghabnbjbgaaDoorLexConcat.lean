/-
  slices.Grow of no lexemes makes room; slices.Concat of two slices of lexemes returns a slice of both. Condition: at most 256 together.
-/
import Derived.Test.YtfoeghabnbjbgaaDoorLexRefMerge
import Derived.Test.YtfoeghabnbjbgaaDoorShelfG
namespace Go.Proofs.YtfoeghabnbjbgaaDoor
open Go.RowKit
open FeatPlain

theorem growL_any (n : Nat) (hn : n ≤ 256) (w : World) : Calls Tryd.prog 48 #[.slice none 0 0, .int .i64 n] w (fun e w' => ∃ v, e = .returned v ∧ w'.ownsRow w.heap.size 30 5 v 0 [] ∧ Aft w w') := by
  obtain ⟨i0, hi, hz0, hz1, hz2⟩ := info_parts Tryd.infoL
  by_cases h0 : n = 0
  · subst h0
    have h := Any8.slices_Grow_room Tryd.growL none 0 0 0 w (Nat.le_refl _) (by omega) (by omega) (by omega)
    refine Calls.mono h ?_
    rintro e w' ⟨rfl, rfl⟩
    exact ⟨_, rfl, World.ownsRow_nil _ _ _ _, Aft.refl _⟩
  · have h := Any8.slices_Grow_grow Tryd.growL i0 _ hi hz0 (by omega) none 0 0 n [] w (Nat.le_refl _) (by omega) (by rw [hz2]; omega) (by omega) (by simp) (fun _ => rfl) (fun a e => by cases e)
    refine Calls.mono h ?_
    rintro e w' ⟨rfl, rfl⟩
    have hge := grownCap_ge w (0 + n) 0 (Tryd.growL_ren.t 25)
    refine ⟨_, rfl, ⟨rfl, .inr ⟨w.heap.size, _, _, rfl, Nat.le_refl _, World.alloc_heap_new _ _, Nat.zero_le _, grownCap_le_maxLen _ _ _ _ (by unfold maxLen; omega), ?_, by simp⟩⟩, ((Aft.refl w).drewN 1).alloc _⟩
    rw [Array.size_append, Array.size_append, size_zeroCells, size_zeroCells]
    simp [Value.cells]
    simp only [Nat.zero_add] at hge
    omega

set_option maxRecDepth 100000 in
set_option maxHeartbeats 3200000 in
theorem concat_any (p off : Nat) (A : Option Addr) (n c : Nat) (xs : List Lx) (B : Option Addr) (m d : Nat) (ys : List Lx) (w : World) (ha : Ls w A n c xs) (hb : Ls w B m d ys) (h0 : w.cell? ⟨p, off, none⟩ = some (.slice A n c)) (h1 : w.cell? ⟨p, off + 1, none⟩ = some (.slice B m d)) (hs : n + m ≤ 256) :
    Calls Tryd.prog 30 #[.slice (some ⟨p, off, none⟩) 2 2] w (RefSelPost w (xs ++ ys)) := by
  obtain ⟨i0, hi, hz0, hz1, hz2⟩ := info_parts Tryd.infoL
  obtain ⟨S, L, hS0, hL0, hS2, hL2, hle, hat⟩ : ∃ (S : Nat → Nat) (L : Nat → List Lx), S 0 = 0 ∧ L 0 = [] ∧ S 2 = n + m ∧ L 2 = xs ++ ys ∧ (∀ k, S k ≤ 256) ∧ ∀ k, k < 2 → ∃ A' n' c' zs, w.cell? ⟨p, off + k, none⟩ = some (.slice A' n' c') ∧ Ls w A' n' c' zs ∧ S (k + 1) = S k + n' ∧ L (k + 1) = L k ++ zs := by
    have hbd : ∀ k : Nat, (if k = 0 then 0 else if k = 1 then n else n + m) ≤ 256 := fun k => by
      by_cases e0 : k = 0
      · rw [if_pos e0]; omega
      · rw [if_neg e0]
        by_cases e1 : k = 1
        · rw [if_pos e1]; omega
        · rw [if_neg e1]; exact hs
    refine ⟨fun k => if k = 0 then 0 else if k = 1 then n else n + m, fun k => if k = 0 then [] else if k = 1 then xs else xs ++ ys, rfl, rfl, rfl, rfl, hbd, fun k hk => ?_⟩
    match k, hk with
    | 0, _ => exact ⟨A, n, c, xs, h0, ha, by simp, by simp⟩
    | 1, _ => exact ⟨B, m, d, ys, h1, hb, by simp, by simp⟩
  have HAT := Lib.hid hat
  have HS0 := Lib.hid hS0
  have HL0 := Lib.hid hL0
  have HS2 := Lib.hid hS2
  have HL2 := Lib.hid hL2
  have hsum := Lib.hid (show (xs ++ ys).length = n + m by rw [List.length_append, ha.len, hb.len])
  clear hat hS0 hL0 hS2 hL2 h0 h1
  go_enter Tryd.func30, Tryd.ntmps30
  go_wp2
  go_loopw [3, 11] (fun v i wr => ∃ k, k ≤ 2 ∧ i = .int .i64 (k : Nat) ∧ v = .int .i64 (S k : Nat) ∧ Aft w wr) (fun _ i _ => 2 - (intOf i).toNat)
  case atStart => exact ⟨0, Nat.zero_le _, rfl, by rw [HS0.out]; rfl, Aft.refl _⟩
  case round =>
    obtain ⟨k, hk, rfl, rfl, haf⟩ := hrel
    have hsk := hle k
    by_cases hlt : k < 2
    · obtain ⟨A', n', c', zs, hcell, hls, hS, _⟩ := HAT.out k hlt
      have hcl := haf.cell hcell
      have HS := Lib.hid hS
      have hsk1 := hle (k + 1)
      rw [hS] at hsk1
      have hnc' := hls.le
      have hcm' := hls.cmax
      clear hS hls hcell
      go_wp2
      go_roundw
      case rel => exact ⟨k + 1, by omega, by go_num, by rw [HS.out]; go_num, haf⟩
      case measure => simp [intOf]; omega
    · obtain rfl : k = 2 := by omega
      have HG := Lib.hid (growL_any (S 2) hsk wr)
      go_wp2_with fail
      refine HG.out.mono ?_
      rintro e w1 ⟨v0, rfl, own0, A1⟩
      obtain ⟨b0, hb0⟩ : ∃ b0, b0 = wr.heap.size := ⟨_, rfl⟩
      rw [← hb0] at own0
      have HO := Lib.hid own0
      have haf1 := haf.trans A1
      have hsz1 : w.heap.size ≤ b0 := by rw [hb0]; exact haf.size
      have hA1 : b0 ≤ w1.heap.size := by rw [hb0]; exact A1.size
      clear own0 hb0
      go_wp2
      go_loopw [6, 27] (fun v i w2 => ∃ k, k ≤ 2 ∧ i = .int .i64 (k : Nat) ∧ w2.ownsRow b0 30 5 v (S k) (flatL (L k)) ∧ Aft w w2 ∧ b0 ≤ w2.heap.size) (fun _ i _ => 2 - (intOf i).toNat)
      case atStart => exact ⟨0, Nat.zero_le _, rfl, by rw [HS0.out, HL0.out]; exact HO.out, haf1, hA1⟩
      case round =>
        obtain ⟨k, hk, rfl, own, haf2, hsz2⟩ := hrel
        have hsk := hle k
        have HOW := Lib.hid own
        clear own
        by_cases hlt : k < 2
        · obtain ⟨A', n', c', zs, hcell, hls, hS, hL⟩ := HAT.out k hlt
          have hcl := haf2.cell hcell
          have HS := Lib.hid hS
          have HL := Lib.hid hL
          have hsk1 := hle (k + 1)
          rw [hS] at hsk1
          have hnc' := hls.le
          have hcm' := hls.cmax
          have HLS := Lib.hid hls
          clear hS hL hls hcell
          go_wp2_with (at_builtin; refine wpList_append_any rfl _ _ 23 rfl b0 30 i0 _ 5 88 Tryd.underlying23 hi hz0 hz1 hz2 rfl (by decide) _ _ _ rfl HOW.out A' n' c' (flatL zs) rfl (by rw [flatL_length, HLS.out.len]) (fun e => ⟨HLS.out.len0 e, HLS.out.nl e⟩) (HLS.out.aft haf2).flatCells (flatL_one _) (by unfold maxLen; omega) (by omega) hsz2 ?_; intro v1 w3 own1 grow1)
          go_roundw
          case rel => exact ⟨k + 1, by omega, by go_num, by rw [HS.out, HL.out, flatL_append]; exact own1, haf2.grown grow1 (fun r hr => by have := (HOW.out.lt r hr).1; omega), Nat.le_trans hsz2 grow1.size⟩
          case measure => simp [intOf]; omega
        · obtain rfl : k = 2 := by omega
          have own2 := HOW.out
          rw [HS2.out, HL2.out] at own2
          obtain ⟨A3, c3, rfl, s3⟩ := Ls.of_row own2 hsum.out (by omega) (fun y hy => by
            rcases List.mem_append.1 hy with h | h
            · exact (ha.lw y h).aft haf2
            · exact (hb.lw y h).aft haf2)
          clear own2
          go_wp2
          go_ret
          exact ⟨⟨_, _, _, rfl, s3⟩, haf2⟩
end Go.Proofs.YtfoeghabnbjbgaaDoor
