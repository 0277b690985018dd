/-
  Over a valid alphabet the index of the i-th letter is i, and its classes are its own: the walk of the law AlphabetLetters. Condition: the slice holds the letters.
-/
import Derived.Test.YthmehnigpnhnbaaDoorAlphPartner
import Derived.Test.YthmehnigpnhnbaaDoorAlphAwake
import Derived.Deep.RegionHeld3
namespace Go.Proofs.YthmehnigpnhnbaaDoor
open Go.RowKit
open AlphPlain

set_option maxRecDepth 100000 in
set_option maxHeartbeats 3200000 in
theorem letters_walk (A : Option Addr) (n c : Nat) (ls : List Lt) (i : Int) (w : World) (hT : Tabs w) (ha : Ll w A n c ls) :
    Calls Tryd.prog 5 #[.slice A n c, .int .i64 i] w (BoolPost w true) := by
  have hn := ha.max
  have hnc := ha.le
  by_cases h0 : i < 0
  · go_enter Tryd.func5, Tryd.ntmps5
    go_wp2_with fail
    refine (awake_any w hT).mono ?_
    rintro e w1 ⟨rfl, A1⟩
    go_wp2_with fail
    refine (awake_any w1 (tabs_aft hT A1)).mono ?_
    rintro e w2 ⟨rfl, N2⟩
    go_wp2
    go_ret
    exact ⟨rfl, A1.trans N2⟩
  · obtain ⟨k, rfl⟩ : ∃ k : Nat, i = k := ⟨i.toNat, by omega⟩
    by_cases hk : k < n
    · have hki : (k : Int) < (n : Int) := by omega
      have hki' : ¬ (n : Int) ≤ (k : Int) := by omega
      cases hv : validB ls
      · go_enter Tryd.func5, Tryd.ntmps5
        go_wp2_with fail
        refine (awake_any w hT).mono ?_
        rintro e w1 ⟨rfl, A1⟩
        go_wp2_with fail
        have h1 := valid_any A n c ls w1 (ha.aft A1)
        rw [hv] at h1
        refine h1.mono ?_
        rintro e w2 ⟨rfl, N2⟩
        clear h1
        have A2 := A1.trans N2
        go_wp2_with fail
        refine (awake_any w2 (tabs_aft hT A2)).mono ?_
        rintro e w3 ⟨rfl, N3⟩
        go_wp2
        go_ret
        exact ⟨rfl, A2.trans N3⟩
      · have hd := dist_of_valid hv
        obtain ⟨b, off, l, rfl, hf, g1, g2⟩ := ha.at_ hk
        have hm := List.mem_of_getElem? hf
        have hwf := (ha.wf l hm).1
        have hI := Lib.hid (idxI_some (hd k l hf))
        have hC := Lib.hid (cls_of_mem hd hm).2
        clear hf
        go_enter Tryd.func5, Tryd.ntmps5
        go_wp2_with fail
        refine (awake_any w hT).mono ?_
        rintro e w1 ⟨rfl, A1⟩
        go_wp2_with fail
        have h1 := valid_any (some ⟨b, off, none⟩) n c ls w1 (ha.aft A1)
        rw [hv] at h1
        refine h1.mono ?_
        rintro e w2 ⟨rfl, N2⟩
        clear h1
        have A2 := A1.trans N2
        have c1 := A2.cell g1
        have c2 := A2.cell g2
        have hwk : IntKind.i64.wrap (k : Int) = (k : Int) := wrap_small _ (by omega) (by omega)
        have hx1 : ∀ w0, Aft w w0 → Calls Tryd.prog 20 #[.slice (some ⟨b, off, none⟩) n c, .int .i32 l.1] w0 (fun e w' => e = .returned (.int .i64 (k : Nat)) ∧ (Aft w w' ∧ w'.cell? ⟨b, off + k * 2, none⟩ = some (.int .i32 l.1) ∧ w'.cell? ⟨b, off + k * 2 + 1, none⟩ = some (.int .u32 l.2))) := fun w0 a => by have h := index_any (some ⟨b, off, none⟩) n c ls l.1 w0 (ha.aft a) hwf; rw [hI.out] at h; exact h.mono fun _ _ z => ⟨z.1, a.trans z.2, (a.trans z.2).cell g1, (a.trans z.2).cell g2⟩
        have hx2 : ∀ w0, Aft w w0 → Calls Tryd.prog 22 #[.slice (some ⟨b, off, none⟩) n c, .int .i32 l.1] w0 (fun e w' => e = .returned (.int .u32 l.2) ∧ (Aft w w' ∧ w'.cell? ⟨b, off + k * 2, none⟩ = some (.int .i32 l.1) ∧ w'.cell? ⟨b, off + k * 2 + 1, none⟩ = some (.int .u32 l.2))) := fun w0 a => by have h := classes_any (some ⟨b, off, none⟩) n c ls l.1 w0 (ha.aft a) hwf; rw [hC.out] at h; exact h.mono fun _ _ z => ⟨z.1, a.trans z.2, (a.trans z.2).cell g1, (a.trans z.2).cell g2⟩
        clear A1 N2 hT ha hd hm hI hC hv
        go_wp2
        go_region_held3 (fun w' => Aft w w' ∧ w'.cell? ⟨b, off + k * 2, none⟩ = some (.int .i32 l.1) ∧ w'.cell? ⟨b, off + k * 2 + 1, none⟩ = some (.int .u32 l.2)) (first | (exact ⟨by assumption, by assumption, by assumption⟩) | (exact ⟨Below.drew (by assumption), by assumption, by assumption⟩) | go_keep) (first | (go_at_call 20; refine (hx1 _ (by first | assumption | (simp [*]; done))).mono ?_; rintro e w' ⟨rfl, N, k1, k2⟩) | (go_at_call 22; refine (hx2 _ (by first | assumption | (simp [*]; done))).mono ?_; rintro e w' ⟨rfl, N, k1, k2⟩))
        go_wp2
        go_ret
        exact ⟨rfl, by assumption⟩
    · have hki : ¬ (k : Int) < (n : Int) := by omega
      have hki' : (n : Int) ≤ (k : Int) := by omega
      go_enter Tryd.func5, Tryd.ntmps5
      go_wp2_with fail
      refine (awake_any w hT).mono ?_
      rintro e w1 ⟨rfl, A1⟩
      go_wp2_with fail
      refine (awake_any w1 (tabs_aft hT A1)).mono ?_
      rintro e w2 ⟨rfl, N2⟩
      go_wp2
      go_ret
      exact ⟨rfl, A1.trans N2⟩
end Go.Proofs.YthmehnigpnhnbaaDoor
