/-
  Another onset permits exactly the strings that were permitted, and those that fit it: the law SyllableMore returns true. Conditions: none.
-/
import Derived.Test.YtfjfgjncmliadaaDoorSylFrame
import Derived.Test.YtfjfgjncmliadaaDoorSylRef2
import Derived.Test.YtfjfgjncmliadaaDoorSylMore
import Derived.Test.YtfjfgjncmliadaaDoorRegion
import Derived.Test.YtfjfgjncmliadaaDoorCards
import Derived.Test.YtfjfgjncmliadaaDoorTie
import Derived.Deep.DeepHandedRow
import Derived.Deep.DeepWitnessRowRef
import Derived.SevenTiedAt
import Derived.Deep.RegionHeld3
namespace Go.Proofs.YtfjfgjncmliadaaDoor.lawYMore
open Go.ChangeShapes Go.WideShapes Go.ChangeAt Go.RowKit
open Go.ChangeMaps (open_string shut_string)
open AlphPlain

set_option maxRecDepth 100000 in
set_option maxHeartbeats 1600000 in
theorem walk (A : Option Addr) (n c : Nat) (ls : List Lt) (B : Option Addr) (m d : Nat) (L R : Int) (os : List Mk) (X : Option Addr) (u v : Nat) (ms : List Int) (s : ByteArray) (w : World) (hT : Tabs w) (ha : Ll w A n c ls) (_ : c * 8 ≤ reachBytes) (hb : Ons w B m d os) (_ : (Lit.int .i64 L).wf = true) (_ : (Lit.int .i64 R).wf = true) (hx : Rw vU w X u v ms) (zs : s.size ≤ maxLen) :
    Calls Tryd.prog 6 #[.slice A n c, pV B m d L R, .slice X u v, .string s] w (BoolPost w true) := by
  have AL : Aft w (w.alloc (.cells #[.slice B m d, .int .i64 L, .int .i64 R] 24)) := (Aft.refl w).alloc _
  obtain ⟨t0, t1, t2⟩ := three_cells w (.slice B m d) (.int .i64 L) (.int .i64 R) 24
  have hux := hx.le
  have huc := hx.cmax
  cases hf : fewP n os s
  · go_enter Tryd.func6, Tryd.ntmps6
    go_wp2_with fail
    have h1 := awake_any _ (tabs_aft hT AL)
    refine h1.mono ?_
    rintro e w1 ⟨rfl, N1⟩
    clear h1
    have A1 := AL.trans N1
    have b0_1 := N1.cell t0
    have b1_1 := N1.cell t1
    have b2_1 := N1.cell t2
    go_wp2_with fail
    have h1 := few_any A n c B m d os L R s w1 (by have := ha.le; have := ha.cmax; omega) (hb.aft A1) zs
    rw [hf] at h1
    refine h1.mono ?_
    rintro e w2 ⟨rfl, N2⟩
    clear h1
    have A2 := A1.trans N2
    have b0_2 := N2.cell b0_1
    have b1_2 := N2.cell b1_1
    have b2_2 := N2.cell b2_1
    go_wp2_with fail
    have h1 := awake_any w2 (tabs_aft hT A2)
    refine h1.mono ?_
    rintro e w3 ⟨rfl, N3⟩
    clear h1
    have A3 := A2.trans N3
    go_wp2
    go_ret
    exact ⟨by first | rfl | simp, A3⟩
  · have hsz := (fewP_facts hf).2.2.1
    have hm40 : m ≤ 40 := by have := (fewP_facts hf).2.1; have := hb.row.len; omega
    by_cases h8 : 8 < u
    · have h8' : (8 : Int) < (u : Int) := by omega
      go_enter Tryd.func6, Tryd.ntmps6
      go_wp2_with fail
      have h1 := awake_any _ (tabs_aft hT AL)
      refine h1.mono ?_
      rintro e w1 ⟨rfl, N1⟩
      clear h1
      have A1 := AL.trans N1
      have b0_1 := N1.cell t0
      have b1_1 := N1.cell t1
      have b2_1 := N1.cell t2
      go_wp2_with fail
      have h1 := few_any A n c B m d os L R s w1 (by have := ha.le; have := ha.cmax; omega) (hb.aft A1) zs
      rw [hf] at h1
      refine h1.mono ?_
      rintro e w2 ⟨rfl, N2⟩
      clear h1
      have A2 := A1.trans N2
      have b0_2 := N2.cell b0_1
      have b1_2 := N2.cell b1_1
      have b2_2 := N2.cell b2_1
      go_wp2_with fail
      have h1 := awake_any w2 (tabs_aft hT A2)
      refine h1.mono ?_
      rintro e w3 ⟨rfl, N3⟩
      clear h1
      have A3 := A2.trans N3
      go_wp2
      go_ret
      exact ⟨by first | rfl | simp, A3⟩
    · have h8' : ¬ (8 : Int) < (u : Int) := by omega
      obtain ⟨i0, hi, hz0, hz1, hz2⟩ := info_parts Tryd.infoUs
      have hmd := hb.row.le
      have hdc := hb.row.cmax
      go_enter Tryd.func6, Tryd.ntmps6
      go_wp2_with fail
      have h1 := awake_any _ (tabs_aft hT AL)
      refine h1.mono ?_
      rintro e w1 ⟨rfl, N1⟩
      clear h1
      have A1 := AL.trans N1
      have b0_1 := N1.cell t0
      have b1_1 := N1.cell t1
      have b2_1 := N1.cell t2
      go_wp2_with fail
      have h1 := few_any A n c B m d os L R s w1 (by have := ha.le; have := ha.cmax; omega) (hb.aft A1) zs
      rw [hf] at h1
      refine h1.mono ?_
      rintro e w2 ⟨rfl, N2⟩
      clear h1
      have A2 := A1.trans N2
      have b0_2 := N2.cell b0_1
      have b1_2 := N2.cell b1_1
      have b2_2 := N2.cell b2_1
      have own0 : (w2.alloc (.cells #[] 33)).ownsRow w2.heap.size 33 1 (.slice (some ⟨w2.heap.size, 0, none⟩) 0 0) 0 [] := World.ownsRow_lit w2 #[] 0 (Nat.le_refl _) (by unfold maxLen; omega) rfl
      have HO0 := Lib.hid own0
      have a2 : Aft w2 (w2.alloc (.cells #[] 33)) := (Aft.refl w2).alloc _
      have hbr := Lib.hid (hb.row.aft (A2.trans a2))
      have hbl := Lib.hid hb.row.len
      have hxl := Lib.hid hx.len
      have HAA := Lib.hid (ha.aft A2)
      have HBB := Lib.hid (hb.aft A2)
      have HXX := Lib.hid (hx.aft A2)
      have g0 := a2.cell b0_2
      have g1 := a2.cell b1_2
      have g2 := a2.cell b2_2
      clear own0 ha hb hx t0 t1 t2 b0_1 b1_1 b2_1 AL N1 N2 A1 hf
      go_wp2_with (first
        | (at_builtin; refine wpList_append_any rfl _ _ 22 rfl w2.heap.size 33 i0 _ 1 24 Tryd.underlying22 hi hz0 hz1 hz2 rfl (by decide) _ _ _ rfl HO0.out B m d (os.map Mk.enc) rfl (by rw [List.length_map, hbl.out, Nat.mul_one]) (fun e => by have h1 := hbr.out.nl e; have h2 := hbr.out.le; omega) (fun ad e => by subst e; exact news_of hbr.out) (enc_one os) (by unfold maxLen; omega) (by omega) (by simp) ?_; intro v1 w3 own1 grow1; have A3 : Aft w2 w3 := a2.grown grow1 (fun k e => (HO0.out.lt k e).1); have hs3 := A3.size; have HO1 := Lib.hid (own1.alloc (.cells #[.slice X u v] 33)); clear own1 grow1 g0 g1 g2)
        | (at_builtin; refine wpList_append_own _ rfl _ _ 22 rfl w2.heap.size 33 i0 _ 1 24 Tryd.underlying22 hi hz0 hz1 hz2 rfl (by decide) _ _ _ rfl HO1.out ⟨w3.heap.size, 0, none⟩ 1 1 [.slice X u v] rfl rfl (one_val _ _ _ _ rfl) (by intro u hu; simp at hu; subst hu; rfl) (by unfold maxLen; omega) (by omega) (by simp; omega) ?_; intro v2 w4 own2 grow2 _; have A4 : Aft w2 w4 := (A3.alloc _).grown grow2 (fun k e => (HO1.out.lt k e).1); have hmore := ons_more (w := w4) (base := w2.heap.size) (V := v2) (n := m) (os := os) (x := ⟨X, u, v, ms⟩) (by rw [List.map_append]; simpa [Mk.enc] using own2) hbl.out (fun y hy => (HBB.out.aft A4).each y hy) (HXX.out.aft A4); clear own2 grow2; obtain ⟨M, mc, rfl, hM⟩ := hmore; have HM := Lib.hid hM; clear hM HO1 HO0 hbr; have g0 := A4.cell b0_2; have g1 := A4.cell b1_2; have g2 := A4.cell b2_2; have hs4 := A4.size))
      have bW0 : Aft (w4.alloc (.cells #[.slice M (m + 1) mc, .int .i64 1, .int .i64 1] 24)) (((w4.alloc (.cells #[.slice M (m + 1) mc, .int .i64 1, .int .i64 1] 24)).alloc (.cells #[.slice X u v] 33)).alloc (.cells #[.slice (some ⟨w4.heap.size + 1, 0, none⟩) 1 1, .int .i64 1, .int .i64 1] 24)) := ((Aft.refl _).alloc _).alloc _
      have A5 : Aft w4 (((w4.alloc (.cells #[.slice M (m + 1) mc, .int .i64 1, .int .i64 1] 24)).alloc (.cells #[.slice X u v] 33)).alloc (.cells #[.slice (some ⟨w4.heap.size + 1, 0, none⟩) 1 1, .int .i64 1, .int .i64 1] 24)) := ((Aft.refl w4).alloc _).trans bW0
      obtain ⟨m0, m1, m2⟩ := three_cells w4 (.slice M (m + 1) mc) (.int .i64 1) (.int .i64 1) 24
      have k3 := bW0.cell m0
      have k4 := bW0.cell m1
      have k5 := bW0.cell m2
      have hz4 : (w4.alloc (.cells #[.slice M (m + 1) mc, .int .i64 1, .int .i64 1] 24)).heap.size = w4.heap.size + 1 := World.size_alloc _ _
      have hz5 : ((w4.alloc (.cells #[.slice M (m + 1) mc, .int .i64 1, .int .i64 1] 24)).alloc (.cells #[.slice X u v] 33)).heap.size = w4.heap.size + 1 + 1 := by rw [World.size_alloc, hz4]
      have hro : Rw Mk.enc ((w4.alloc (.cells #[.slice M (m + 1) mc, .int .i64 1, .int .i64 1] 24)).alloc (.cells #[.slice X u v] 33)) (some ⟨(w4.alloc (.cells #[.slice M (m + 1) mc, .int .i64 1, .int .i64 1] 24)).heap.size, 0, none⟩) 1 1 [⟨X, u, v, ms⟩] := lit_rw (enc := Mk.enc) (w4.alloc (.cells #[.slice M (m + 1) mc, .int .i64 1, .int .i64 1] 24)) 33 [⟨X, u, v, ms⟩] (by simp)
      rw [hz4] at hro
      have hOn : Ons (((w4.alloc (.cells #[.slice M (m + 1) mc, .int .i64 1, .int .i64 1] 24)).alloc (.cells #[.slice X u v] 33)).alloc (.cells #[.slice (some ⟨w4.heap.size + 1, 0, none⟩) 1 1, .int .i64 1, .int .i64 1] 24)) (some ⟨w4.heap.size + 1, 0, none⟩) 1 1 [⟨X, u, v, ms⟩] := ⟨hro.aft ((Aft.refl _).alloc _), fun y hy => by rw [List.mem_singleton.1 hy]; exact HXX.out.aft (A4.trans A5)⟩
      have HON := Lib.hid hOn
      obtain ⟨o0, o1, o2⟩ := three_cells ((w4.alloc (.cells #[.slice M (m + 1) mc, .int .i64 1, .int .i64 1] 24)).alloc (.cells #[.slice X u v] 33)) (.slice (some ⟨w4.heap.size + 1, 0, none⟩) 1 1) (.int .i64 1) (.int .i64 1) 24
      rw [hz5] at o0 o1 o2
      have k0 := A5.cell g0
      have k1 := A5.cell g1
      have k2 := A5.cell g2
      clear bW0 m0 m1 m2 hz4 hz5 hro hOn g0 g1 g2 b0_2 b1_2 b2_2
      generalize (((w4.alloc (.cells #[.slice M (m + 1) mc, .int .i64 1, .int .i64 1] 24)).alloc (.cells #[.slice X u v] 33)).alloc (.cells #[.slice (some ⟨w4.heap.size + 1, 0, none⟩) 1 1, .int .i64 1, .int .i64 1] 24)) = w5 at *
      generalize w4.heap.size + 1 + 1 = Q6 at *
      generalize w4.heap.size = Q4 at *
      have A25 := A4.trans A5
      have h1 : ∀ w0, Aft w5 w0 → Calls Tryd.prog 21 #[.slice A n c, pV M (m + 1) mc 1 1, .string s] w0 (fun e w' => e = .returned (.bool (onB ls (masks (os ++ [⟨X, u, v, ms⟩])) (runesOf s))) ∧ (Aft w5 w' ∧ w'.cell? ⟨w.heap.size, 0, none⟩ = some (.slice B m d) ∧ w'.cell? ⟨w.heap.size, 1, none⟩ = some (.int .i64 L) ∧ w'.cell? ⟨w.heap.size, 2, none⟩ = some (.int .i64 R) ∧ w'.cell? ⟨Q4, 0, none⟩ = some (.slice M (m + 1) mc) ∧ w'.cell? ⟨Q4, 1, none⟩ = some (.int .i64 1) ∧ w'.cell? ⟨Q4, 2, none⟩ = some (.int .i64 1) ∧ w'.cell? ⟨Q6, 0, none⟩ = some (.slice (some ⟨Q4 + 1, 0, none⟩) 1 1) ∧ w'.cell? ⟨Q6, 1, none⟩ = some (.int .i64 1) ∧ w'.cell? ⟨Q6, 2, none⟩ = some (.int .i64 1))) := fun w0 a => by have h := onset_any A n c ls M (m + 1) mc (os ++ [⟨X, u, v, ms⟩]) 1 1 s w0 (HAA.out.aft (A25.trans a)) (HM.out.aft (A5.trans a)) (by omega); exact h.mono fun _ _ z => ⟨z.1, a.trans z.2, (a.trans z.2).cell k0, (a.trans z.2).cell k1, (a.trans z.2).cell k2, (a.trans z.2).cell k3, (a.trans z.2).cell k4, (a.trans z.2).cell k5, (a.trans z.2).cell o0, (a.trans z.2).cell o1, (a.trans z.2).cell o2⟩
      have h2 : ∀ w0, Aft w5 w0 → Calls Tryd.prog 21 #[.slice A n c, pV B m d L R, .string s] w0 (fun e w' => e = .returned (.bool (onB ls (masks os) (runesOf s))) ∧ (Aft w5 w' ∧ w'.cell? ⟨w.heap.size, 0, none⟩ = some (.slice B m d) ∧ w'.cell? ⟨w.heap.size, 1, none⟩ = some (.int .i64 L) ∧ w'.cell? ⟨w.heap.size, 2, none⟩ = some (.int .i64 R) ∧ w'.cell? ⟨Q4, 0, none⟩ = some (.slice M (m + 1) mc) ∧ w'.cell? ⟨Q4, 1, none⟩ = some (.int .i64 1) ∧ w'.cell? ⟨Q4, 2, none⟩ = some (.int .i64 1) ∧ w'.cell? ⟨Q6, 0, none⟩ = some (.slice (some ⟨Q4 + 1, 0, none⟩) 1 1) ∧ w'.cell? ⟨Q6, 1, none⟩ = some (.int .i64 1) ∧ w'.cell? ⟨Q6, 2, none⟩ = some (.int .i64 1))) := fun w0 a => by have h := onset_any A n c ls B m d os L R s w0 (HAA.out.aft (A25.trans a)) (HBB.out.aft (A25.trans a)) (by omega); exact h.mono fun _ _ z => ⟨z.1, a.trans z.2, (a.trans z.2).cell k0, (a.trans z.2).cell k1, (a.trans z.2).cell k2, (a.trans z.2).cell k3, (a.trans z.2).cell k4, (a.trans z.2).cell k5, (a.trans z.2).cell o0, (a.trans z.2).cell o1, (a.trans z.2).cell o2⟩
      have h3 : ∀ w0, Aft w5 w0 → Calls Tryd.prog 21 #[.slice A n c, pV (some ⟨Q4 + 1, 0, none⟩) 1 1 1 1, .string s] w0 (fun e w' => e = .returned (.bool (onB ls (masks [⟨X, u, v, ms⟩]) (runesOf s))) ∧ (Aft w5 w' ∧ w'.cell? ⟨w.heap.size, 0, none⟩ = some (.slice B m d) ∧ w'.cell? ⟨w.heap.size, 1, none⟩ = some (.int .i64 L) ∧ w'.cell? ⟨w.heap.size, 2, none⟩ = some (.int .i64 R) ∧ w'.cell? ⟨Q4, 0, none⟩ = some (.slice M (m + 1) mc) ∧ w'.cell? ⟨Q4, 1, none⟩ = some (.int .i64 1) ∧ w'.cell? ⟨Q4, 2, none⟩ = some (.int .i64 1) ∧ w'.cell? ⟨Q6, 0, none⟩ = some (.slice (some ⟨Q4 + 1, 0, none⟩) 1 1) ∧ w'.cell? ⟨Q6, 1, none⟩ = some (.int .i64 1) ∧ w'.cell? ⟨Q6, 2, none⟩ = some (.int .i64 1))) := fun w0 a => by have h := onset_any A n c ls (some ⟨Q4 + 1, 0, none⟩) 1 1 [⟨X, u, v, ms⟩] 1 1 s w0 (HAA.out.aft (A25.trans a)) (HON.out.aft a) (by omega); exact h.mono fun _ _ z => ⟨z.1, a.trans z.2, (a.trans z.2).cell k0, (a.trans z.2).cell k1, (a.trans z.2).cell k2, (a.trans z.2).cell k3, (a.trans z.2).cell k4, (a.trans z.2).cell k5, (a.trans z.2).cell o0, (a.trans z.2).cell o1, (a.trans z.2).cell o2⟩
      have hV := onB_more ls os ⟨X, u, v, ms⟩ (runesOf s)
      rw [hV] at h1
      clear hV HAA HBB HXX HM HON hbl hxl
      generalize onB ls (masks [⟨X, u, v, ms⟩]) (runesOf s) = V3 at *
      generalize onB ls (masks os) (runesOf s) = V2 at *
      cases V2
      · rw [Bool.false_or] at h1
        refine wp_region_held_drew (S := fun w' => Aft w5 w' ∧ w'.cell? ⟨w.heap.size, 0, none⟩ = some (.slice B m d) ∧ w'.cell? ⟨w.heap.size, 1, none⟩ = some (.int .i64 L) ∧ w'.cell? ⟨w.heap.size, 2, none⟩ = some (.int .i64 R) ∧ w'.cell? ⟨Q4, 0, none⟩ = some (.slice M (m + 1) mc) ∧ w'.cell? ⟨Q4, 1, none⟩ = some (.int .i64 1) ∧ w'.cell? ⟨Q4, 2, none⟩ = some (.int .i64 1) ∧ w'.cell? ⟨Q6, 0, none⟩ = some (.slice (some ⟨Q4 + 1, 0, none⟩) 1 1) ∧ w'.cell? ⟨Q6, 1, none⟩ = some (.int .i64 1) ∧ w'.cell? ⟨Q6, 2, none⟩ = some (.int .i64 1)) (by kernel_rfl) (⟨Below.drew (Aft.refl _), k0, k1, k2, k3, k4, k5, o0, o1, o2⟩) (fun hHeld => ?_)
        refine take_on (i := 0) (v := ?v1) rfl (by kernel_rfl) (by kernel_rfl) (by kernel_rfl) (fun _ _ _ h => h) (by rfl) (by assumption) ?y1 ?_
        case y1 => (intro w hSw; (try dsimp only at hSw); go_simp; (try with_reducible rfl))
        try simp only [Act.put, List.setIfInBounds_toArray, List.set_cons_zero, List.set_cons_succ]
        refine take_on (i := 1) (v := ?v2) rfl (by kernel_rfl) (by kernel_rfl) (by kernel_rfl) (fun _ _ _ h => h) (by rfl) (by assumption) ?y2 ?_
        case y2 => (intro w hSw; (try dsimp only at hSw); go_simp; (try with_reducible rfl))
        try simp only [Act.put, List.setIfInBounds_toArray, List.set_cons_zero, List.set_cons_succ]
        refine take_on (i := 2) (v := ?v3) rfl (by kernel_rfl) (by kernel_rfl) (by kernel_rfl) (fun _ _ _ h => h) (by rfl) (by assumption) ?y3 ?_
        case y3 => (intro w hSw; (try dsimp only at hSw); go_simp; (try with_reducible rfl))
        try simp only [Act.put, List.setIfInBounds_toArray, List.set_cons_zero, List.set_cons_succ]
        refine take_on (i := 4) (v := ?v4) rfl (by kernel_rfl) (by kernel_rfl) (by kernel_rfl) (fun _ _ _ h => h) (by rfl) (by assumption) ?y4 ?_
        case y4 => (intro w hSw; (try dsimp only at hSw); go_simp; (try with_reducible rfl))
        try simp only [Act.put, List.setIfInBounds_toArray, List.set_cons_zero, List.set_cons_succ]
        refine take_on (i := 5) (v := ?v5) rfl (by kernel_rfl) (by kernel_rfl) (by kernel_rfl) (fun _ _ _ h => h) (by rfl) (by assumption) ?y5 ?_
        case y5 => (intro w hSw; (try dsimp only at hSw); go_simp; (try with_reducible rfl))
        try simp only [Act.put, List.setIfInBounds_toArray, List.set_cons_zero, List.set_cons_succ]
        refine take_on (i := 6) (v := ?v6) rfl (by kernel_rfl) (by kernel_rfl) (by kernel_rfl) (fun _ _ _ h => h) (by rfl) (by assumption) ?y6 ?_
        case y6 => (intro w hSw; (try dsimp only at hSw); go_simp; (try with_reducible rfl))
        try simp only [Act.put, List.setIfInBounds_toArray, List.set_cons_zero, List.set_cons_succ]
        refine one_ready (i := 3) rfl (by kernel_rfl) (by rfl) (fun K hK => ?_)
        go_simp
        go_at_call 21
        refine (h1 _ (by first | assumption | exact hHeld.1 | exact Below.drew hHeld.1)).mono ?_
        rintro e' w' ⟨rfl, hh⟩
        try go_simp
        refine hK.out _ _ (by first | exact hh | exact ⟨Below.drew hh.1, hh.2⟩) (fun hHeld => ?_)
        clear hK K
        try simp only [Act.put, List.setIfInBounds_toArray, List.set_cons_zero, List.set_cons_succ]
        refine one_ready (i := 7) rfl (by kernel_rfl) (by rfl) (fun K hK => ?_)
        go_simp
        go_at_call 21
        refine (h2 _ (by first | assumption | exact hHeld.1 | exact Below.drew hHeld.1)).mono ?_
        rintro e' w' ⟨rfl, hh⟩
        try go_simp
        refine hK.out _ _ (by first | exact hh | exact ⟨Below.drew hh.1, hh.2⟩) (fun hHeld => ?_)
        clear hK K
        try simp only [Act.put, List.setIfInBounds_toArray, List.set_cons_zero, List.set_cons_succ]
        refine take_on (i := 8) (v := ?v9) rfl (by kernel_rfl) (by kernel_rfl) (by kernel_rfl) (fun _ _ _ h => h) (by rfl) (by assumption) ?y9 ?_
        case y9 => (intro w hSw; (try dsimp only at hSw); go_simp; (try with_reducible rfl))
        try simp only [Act.put, List.setIfInBounds_toArray, List.set_cons_zero, List.set_cons_succ]
        refine take_on (i := 9) (v := ?v10) rfl (by kernel_rfl) (by kernel_rfl) (by kernel_rfl) (fun _ _ _ h => h) (by rfl) (by assumption) ?y10 ?_
        case y10 => (intro w hSw; (try dsimp only at hSw); go_simp; (try with_reducible rfl))
        try simp only [Act.put, List.setIfInBounds_toArray, List.set_cons_zero, List.set_cons_succ]
        refine take_on (i := 10) (v := ?v11) rfl (by kernel_rfl) (by kernel_rfl) (by kernel_rfl) (fun _ _ _ h => h) (by rfl) (by assumption) ?y11 ?_
        case y11 => (intro w hSw; (try dsimp only at hSw); go_simp; (try with_reducible rfl))
        try simp only [Act.put, List.setIfInBounds_toArray, List.set_cons_zero, List.set_cons_succ]
        refine take_on (i := 11) (v := ?v12) rfl (by kernel_rfl) (by kernel_rfl) (by kernel_rfl) (fun _ _ _ h => h) (by rfl) (by assumption) ?y12 ?_
        case y12 => (intro w hSw; (try dsimp only at hSw); go_simp; (try with_reducible rfl))
        try simp only [Act.put, List.setIfInBounds_toArray, List.set_cons_zero, List.set_cons_succ]
        refine one_ready (i := 12) rfl (by kernel_rfl) (by rfl) (fun K hK => ?_)
        go_simp
        go_at_call 21
        refine (h3 _ (by first | assumption | exact hHeld.1 | exact Below.drew hHeld.1)).mono ?_
        rintro e' w' ⟨rfl, hh⟩
        try go_simp
        refine hK.out _ _ (by first | exact hh | exact ⟨Below.drew hh.1, hh.2⟩) (fun hHeld => ?_)
        clear hK K
        try simp only [Act.put, List.setIfInBounds_toArray, List.set_cons_zero, List.set_cons_succ]
        refine take_on (i := 13) (v := ?v14) rfl (by kernel_rfl) (by kernel_rfl) (by kernel_rfl) (fun _ _ _ h => h) (by rfl) (by assumption) ?y14 ?_
        case y14 => (intro w hSw; (try dsimp only at hSw); go_simp; (try with_reducible rfl))
        try simp only [Act.put, List.setIfInBounds_toArray, List.set_cons_zero, List.set_cons_succ]
        refine take_on (i := 14) (v := ?v15) rfl (by kernel_rfl) (by kernel_rfl) (by kernel_rfl) (fun _ _ _ h => h) (by rfl) (by assumption) ?y15 ?_
        case y15 => (intro w hSw; (try dsimp only at hSw); go_simp; (try with_reducible rfl))
        try simp only [Act.put, List.setIfInBounds_toArray, List.set_cons_zero, List.set_cons_succ]
        refine take_on (i := 15) (v := ?v16) rfl (by kernel_rfl) (by kernel_rfl) (by kernel_rfl) (fun _ _ _ h => h) (by rfl) (by assumption) ?y16 ?_
        case y16 => (intro w hSw; (try dsimp only at hSw); go_simp; (try with_reducible rfl))
        try simp only [Act.put, List.setIfInBounds_toArray, List.set_cons_zero, List.set_cons_succ]
        refine wpAnyH_done (by kernel_rfl) ?_ _
        go_wp2
        go_ret
        exact ⟨by first | rfl | simp, (A2.trans A25).trans hHeld.1⟩
      · rw [Bool.true_or] at h1
        refine wp_region_held_drew (S := fun w' => Aft w5 w' ∧ w'.cell? ⟨w.heap.size, 0, none⟩ = some (.slice B m d) ∧ w'.cell? ⟨w.heap.size, 1, none⟩ = some (.int .i64 L) ∧ w'.cell? ⟨w.heap.size, 2, none⟩ = some (.int .i64 R) ∧ w'.cell? ⟨Q4, 0, none⟩ = some (.slice M (m + 1) mc) ∧ w'.cell? ⟨Q4, 1, none⟩ = some (.int .i64 1) ∧ w'.cell? ⟨Q4, 2, none⟩ = some (.int .i64 1) ∧ w'.cell? ⟨Q6, 0, none⟩ = some (.slice (some ⟨Q4 + 1, 0, none⟩) 1 1) ∧ w'.cell? ⟨Q6, 1, none⟩ = some (.int .i64 1) ∧ w'.cell? ⟨Q6, 2, none⟩ = some (.int .i64 1)) (by kernel_rfl) (⟨Below.drew (Aft.refl _), k0, k1, k2, k3, k4, k5, o0, o1, o2⟩) (fun hHeld => ?_)
        refine take_on (i := 0) (v := ?v17) rfl (by kernel_rfl) (by kernel_rfl) (by kernel_rfl) (fun _ _ _ h => h) (by rfl) (by assumption) ?y17 ?_
        case y17 => (intro w hSw; (try dsimp only at hSw); go_simp; (try with_reducible rfl))
        try simp only [Act.put, List.setIfInBounds_toArray, List.set_cons_zero, List.set_cons_succ]
        refine take_on (i := 1) (v := ?v18) rfl (by kernel_rfl) (by kernel_rfl) (by kernel_rfl) (fun _ _ _ h => h) (by rfl) (by assumption) ?y18 ?_
        case y18 => (intro w hSw; (try dsimp only at hSw); go_simp; (try with_reducible rfl))
        try simp only [Act.put, List.setIfInBounds_toArray, List.set_cons_zero, List.set_cons_succ]
        refine take_on (i := 2) (v := ?v19) rfl (by kernel_rfl) (by kernel_rfl) (by kernel_rfl) (fun _ _ _ h => h) (by rfl) (by assumption) ?y19 ?_
        case y19 => (intro w hSw; (try dsimp only at hSw); go_simp; (try with_reducible rfl))
        try simp only [Act.put, List.setIfInBounds_toArray, List.set_cons_zero, List.set_cons_succ]
        refine take_on (i := 4) (v := ?v20) rfl (by kernel_rfl) (by kernel_rfl) (by kernel_rfl) (fun _ _ _ h => h) (by rfl) (by assumption) ?y20 ?_
        case y20 => (intro w hSw; (try dsimp only at hSw); go_simp; (try with_reducible rfl))
        try simp only [Act.put, List.setIfInBounds_toArray, List.set_cons_zero, List.set_cons_succ]
        refine take_on (i := 5) (v := ?v21) rfl (by kernel_rfl) (by kernel_rfl) (by kernel_rfl) (fun _ _ _ h => h) (by rfl) (by assumption) ?y21 ?_
        case y21 => (intro w hSw; (try dsimp only at hSw); go_simp; (try with_reducible rfl))
        try simp only [Act.put, List.setIfInBounds_toArray, List.set_cons_zero, List.set_cons_succ]
        refine take_on (i := 6) (v := ?v22) rfl (by kernel_rfl) (by kernel_rfl) (by kernel_rfl) (fun _ _ _ h => h) (by rfl) (by assumption) ?y22 ?_
        case y22 => (intro w hSw; (try dsimp only at hSw); go_simp; (try with_reducible rfl))
        try simp only [Act.put, List.setIfInBounds_toArray, List.set_cons_zero, List.set_cons_succ]
        refine one_ready (i := 3) rfl (by kernel_rfl) (by rfl) (fun K hK => ?_)
        go_simp
        go_at_call 21
        refine (h1 _ (by first | assumption | exact hHeld.1 | exact Below.drew hHeld.1)).mono ?_
        rintro e' w' ⟨rfl, hh⟩
        try go_simp
        refine hK.out _ _ (by first | exact hh | exact ⟨Below.drew hh.1, hh.2⟩) (fun hHeld => ?_)
        clear hK K
        try simp only [Act.put, List.setIfInBounds_toArray, List.set_cons_zero, List.set_cons_succ]
        refine one_ready (i := 7) rfl (by kernel_rfl) (by rfl) (fun K hK => ?_)
        go_simp
        go_at_call 21
        refine (h2 _ (by first | assumption | exact hHeld.1 | exact Below.drew hHeld.1)).mono ?_
        rintro e' w' ⟨rfl, hh⟩
        try go_simp
        refine hK.out _ _ (by first | exact hh | exact ⟨Below.drew hh.1, hh.2⟩) (fun hHeld => ?_)
        clear hK K
        try simp only [Act.put, List.setIfInBounds_toArray, List.set_cons_zero, List.set_cons_succ]
        refine take_on (i := 8) (v := ?v25) rfl (by kernel_rfl) (by kernel_rfl) (by kernel_rfl) (fun _ _ _ h => h) (by rfl) (by assumption) ?y25 ?_
        case y25 => (intro w hSw; (try dsimp only at hSw); go_simp; (try with_reducible rfl))
        try simp only [Act.put, List.setIfInBounds_toArray, List.set_cons_zero, List.set_cons_succ]
        refine take_off (i := 9) rfl (by kernel_rfl) (by kernel_rfl) (by kernel_rfl) (fun _ _ _ h => h) (by rfl) (by assumption) ?_
        try simp only [Act.put, List.setIfInBounds_toArray, List.set_cons_zero, List.set_cons_succ]
        refine take_off (i := 10) rfl (by kernel_rfl) (by kernel_rfl) (by kernel_rfl) (fun _ _ _ h => h) (by rfl) (by assumption) ?_
        try simp only [Act.put, List.setIfInBounds_toArray, List.set_cons_zero, List.set_cons_succ]
        refine take_off (i := 11) rfl (by kernel_rfl) (by kernel_rfl) (by kernel_rfl) (fun _ _ _ h => h) (by rfl) (by assumption) ?_
        try simp only [Act.put, List.setIfInBounds_toArray, List.set_cons_zero, List.set_cons_succ]
        refine take_off (i := 12) rfl (by kernel_rfl) (by kernel_rfl) (by kernel_rfl) (fun _ _ _ h => h) (by rfl) (by assumption) ?_
        try simp only [Act.put, List.setIfInBounds_toArray, List.set_cons_zero, List.set_cons_succ]
        refine take_on (i := 13) (v := ?v30) rfl (by kernel_rfl) (by kernel_rfl) (by kernel_rfl) (fun _ _ _ h => h) (by rfl) (by assumption) ?y30 ?_
        case y30 => (intro w hSw; (try dsimp only at hSw); go_simp; (try with_reducible rfl))
        try simp only [Act.put, List.setIfInBounds_toArray, List.set_cons_zero, List.set_cons_succ]
        refine take_on (i := 14) (v := ?v31) rfl (by kernel_rfl) (by kernel_rfl) (by kernel_rfl) (fun _ _ _ h => h) (by rfl) (by assumption) ?y31 ?_
        case y31 => (intro w hSw; (try dsimp only at hSw); go_simp; (try with_reducible rfl))
        try simp only [Act.put, List.setIfInBounds_toArray, List.set_cons_zero, List.set_cons_succ]
        refine take_on (i := 15) (v := ?v32) rfl (by kernel_rfl) (by kernel_rfl) (by kernel_rfl) (fun _ _ _ h => h) (by rfl) (by assumption) ?y32 ?_
        case y32 => (intro w hSw; (try dsimp only at hSw); go_simp; (try with_reducible rfl))
        try simp only [Act.put, List.setIfInBounds_toArray, List.set_cons_zero, List.set_cons_succ]
        refine wpAnyH_done (by kernel_rfl) ?_ _
        go_wp2
        go_ret
        exact ⟨by first | rfl | simp, (A2.trans A25).trans hHeld.1⟩

theorem own : ownKnob Tryd.prog.godebug = none := by kernel_rfl
theorem laidOut : laidOutB Tryd.prog = true := by kernel_rfl
theorem bytesA : Tryd.prog.bytesOf 51 = 8 := by kernel_rfl

set_option maxRecDepth 100000 in
theorem contract (H : Type) (enc : TypeId × Value → H) (W : World) (base : Nat) (args : Array Value) (ds gs : List (DataW H)) (before : List MemPlace)
    (hval : ∀ (j : Nat) t v, Tryd.f6.params[j]? = some t → args[j]? = some v → Value.okWide Tryd.prog W .any base t v)
    (hW : DataW.Whole enc Tryd.prog Tryd.f6.params.toList Rows.syllableMoreSpec.vars false W args.toList ds gs before) (hsz0 : (DataW.weightsEach Tryd.prog (Tryd.f6.params.toList ++ Rows.syllableMoreSpec.plain.varTypes Tryd.prog) (ds ++ gs)).all (· ≤ reachBytes) = true) (hL : laidMetH Tryd.prog listed W) :
    Calls Tryd.prog 6 args W fun e W' => ∃ v, e = .returned v ∧ Rows.syllableMoreSpec.post enc Tryd.prog Tryd.f6 false true false false W args v W' := by
  have hW' := hW
  obtain ⟨p, q, hA0, hV, rfl, hfz, hnd⟩ := hW
  have hA : DataW.TrodAll enc Tryd.prog W 0 (fun _ => true) true Tryd.f6.params.toList args.toList ds p := hA0
  have hsz := hsz0
  rw [Tryd.params6] at hA hval hsz
  obtain ⟨v0, vs0, d0, ds0, p0, q0, hargs, rfl, rfl, h0, r0⟩ := trodAll_cons hA
  obtain ⟨v1, vs1, d1, ds1, p1, q1, rfl, rfl, rfl, h1, r1⟩ := trodAll_cons r0
  obtain ⟨v2, vs2, d2, ds2, p2, q2, rfl, rfl, rfl, h2, r2⟩ := trodAll_cons r1
  obtain ⟨v3, vs3, d3, ds3, p3, q3, rfl, rfl, rfl, h3, r3⟩ := trodAll_cons r2
  obtain ⟨rfl, rfl, rfl⟩ := trodAll_nil r3
  obtain rfl : args = #[v0, v1, v2, v3] := by cases args; simp_all
  obtain ⟨rfl, rfl⟩ := trodVars_none hV
  obtain ⟨a0, len0, cap0, rfl⟩ := okWide_slice Tryd.underlying28 (hval 0 28 v0 rfl rfl)
  have lt0 : ∀ x ∈ p0, x.block < W.heap.size := by obtain ⟨m, hm⟩ := h0; exact DataW.trod_lt m _ _ _ hm
  obtain ⟨xs0, s0, b0⟩ := letters_of h0 (Nat.le_refl _) (fun el sp e => by have := sized_slice hsz (j := 0) (t := 28) (e := 51) rfl (by rw [e]; rfl) Tryd.underlying28; rwa [bytesA] at this)
  have lt1 : ∀ x ∈ p1, x.block < W.heap.size := by obtain ⟨m, hm⟩ := h1; exact DataW.trod_lt m _ _ _ hm
  obtain ⟨a1, len1, cap1, L1, R1, xs1, rfl, s1, zl1, zr1⟩ := pho_of (okWide_struct Tryd.underlying24 (hval 1 24 v1 rfl rfl)) h1
  obtain ⟨a2, len2, cap2, rfl⟩ := okWide_slice Tryd.underlying33 (hval 2 33 v2 rfl rfl)
  have lt2 : ∀ x ∈ p2, x.block < W.heap.size := by obtain ⟨m, hm⟩ := h2; exact DataW.trod_lt m _ _ _ hm
  obtain ⟨xs2, s2⟩ := masks_of h2
  obtain ⟨xs3, rfl, rfl, rfl, z3⟩ := open_string Tryd.underlying9 (hval 3 9 v3 rfl rfl) h3
  clear hA0
  refine (walk a0 len0 cap0 xs0 a1 len1 cap1 L1 R1 xs1 a2 len2 cap2 xs2 xs3 W (tabs_of hL) s0 b0 s1 zl1 zr1 s2 z3).mono fun e W' ⟨he, bel⟩ => ?_
  subst he
  exact ⟨_, rfl, _, _, _, [], _, [], hW', trodAll_mk1 (shut_bool Tryd.underlying4 _), (trodAll_cons_mk (Below.trod laidOut (by kernel_rfl) (of_decide_eq_true (by kernel_rfl)) h0 bel lt0) (trodAll_cons_mk (Below.trod laidOut (by kernel_rfl) (of_decide_eq_true (by kernel_rfl)) h1 bel lt1) (trodAll_cons_mk (Below.trod laidOut (by kernel_rfl) (of_decide_eq_true (by kernel_rfl)) h2 bel lt2) (trodAll_cons_mk (shut_string Tryd.underlying9 z3) trodAll_mk0)))), rfl, Below.frame bel _, fun h => by cases h⟩

theorem witness_row (os : Os) {H : Type} (enc : TypeId × Value → H) :
    (OpenSpec.ofChange Rows.syllableMoreSpec).preRow enc Tryd.prog Tryd.f6 Rows.syllableMoreRow.domain false Rows.syllableMoreRow.laid ((laidWorld os).forCall (fun _ _ => 0) ⟨#[], #[.slice none 0 0, .agg #[.slice none 0 0, .int .i64 0, .int .i64 0], .slice none 0 0, .string ⟨#[]⟩], []⟩).memory #[.slice none 0 0, .agg #[.slice none 0 0, .int .i64 0, .int .i64 0], .slice none 0 0, .string ⟨#[]⟩] := by
  have hw : (DataW.whole enc Tryd.prog ((laidWorld os).forCall (fun _ _ => 0) ⟨#[], #[.slice none 0 0, .agg #[.slice none 0 0, .int .i64 0, .int .i64 0], .slice none 0 0, .string ⟨#[]⟩], []⟩).memory Tryd.f6.params.toList Rows.syllableMoreSpec.vars false (#[.slice none 0 0, .agg #[.slice none 0 0, .int .i64 0, .int .i64 0], .slice none 0 0, .string ⟨#[]⟩] : Array Value).toList 8).map (fun x => (x.1, x.2.1)) =
      some ([.nil, .agg [.nil, .lit (.int .i64 0), .lit (.int .i64 0)], .nil, .lit (.string [])], []) := by kernel_rfl
  obtain ⟨⟨x1, x2, x3⟩, hx, hx1⟩ := Option.map_eq_some_iff.1 hw
  simp only [Prod.mk.injEq] at hx1
  obtain ⟨rfl, rfl⟩ := hx1
  exact OpenSpec.preRow_of_cond 8 hx (by kernel_rfl) (fun k hk => by cases hk) (by kernel_rfl) (laid_met os _)

set_option maxRecDepth 100000 in
theorem lifted (os : Os) (started : os.Started) (H : Type) (enc : TypeId × Value → H) (F : Stop.Interp) :
    ReturnsInHanded {} Tryd.checked os 6 .any ((OpenSpec.ofChange Rows.syllableMoreSpec).preRow enc Tryd.prog Tryd.f6 Rows.syllableMoreRow.domain false Rows.syllableMoreRow.laid) (((OpenSpec.ofChange Rows.syllableMoreSpec).at F).post enc Tryd.prog Tryd.f6 false true false false) := by
  refine returnsInHanded_of_row (C := Tryd.checked) (s := (OpenSpec.ofChange Rows.syllableMoreSpec)) own started (by kernel_rfl) Tryd.func6
    (witness_row_atRef (enc := enc) (C := Tryd.checked) false (laidWorld os) #[.slice none 0 0, .agg #[.slice none 0 0, .int .i64 0, .int .i64 0], .slice none 0 0, .string ⟨#[]⟩] rfl (by kernel_rfl) (by kernel_rfl) (by kernel_rfl) (witness_row os enc)) ?_
  intro W base args ds gs before hval hW _ _ hsz hL _ _
  exact contract H enc W base args ds gs before hval hW hsz hL

theorem row : Rows.SyllableMoreSaid :=
  OpenClaim.holds_of_cond 6 Tryd.f6 rfl rfl rfl rfl rfl rfl rfl ⟨rfl, rfl, rfl, rfl, rfl⟩ rfl rfl rfl rfl rfl (by kernel_rfl) Tryd.func6 (by kernel_rfl)
    (of_decide_eq_true (by kernel_rfl)) (by unfold Func.isWrapper; rw [if_neg (of_decide_eq_false (by kernel_rfl))]; exact ⟨rfl, rfl⟩)
    (fun os started H enc _ F0 => by rw [OpenClaim.pre_eq_preRow]; exact lifted os started H enc F0)

/-- No parameter wants a stand-in; the program's own looks are off. -/
theorem plain (f : FuncId) (fn : Func) (hf : Tryd.pinned.checked.prog.funcNamed "pentaglot/pentaglotlaw13.SyllableMore" = some f) (hfn : Tryd.pinned.checked.prog.funcs[f]? = some fn) :
    false = Tryd.pinned.checked.prog.looks [] ∧ ∀ (j : Nat) t, fn.params[j]? = some t → Tryd.pinned.checked.prog.wantsStandIn t = false := by
  obtain rfl : f = 6 := Option.some.inj ((show Tryd.prog.funcNamed "pentaglot/pentaglotlaw13.SyllableMore" = some 6 by kernel_rfl).symm.trans hf) |>.symm
  obtain rfl : fn = Tryd.f6 := (Option.some.inj (Tryd.func6.symm.trans hfn)).symm
  refine ⟨by kernel_rfl, fun j t ht => ?_⟩
  rw [Tryd.params6] at ht
  have hm : t = 28 ∨ t = 24 ∨ t = 33 ∨ t = 9 := by simpa using Array.mem_of_getElem? ht
  rcases hm with rfl | rfl | rfl | rfl
  · exact (show Tryd.prog.wantsStandIn 28 = false by kernel_rfl)
  · exact (show Tryd.prog.wantsStandIn 24 = false by kernel_rfl)
  · exact (show Tryd.prog.wantsStandIn 33 = false by kernel_rfl)
  · exact (show Tryd.prog.wantsStandIn 9 = false by kernel_rfl)

theorem proved : Rows.SyllableMoreCardSaid :=
  Claim7.holds_tied_plain_at .later [] _ _ _ _ row (fun _ h => by cases h) (by kernel_rfl) (fun _ h => by cases h) syllableMore_row_tie rfl ⟨rfl, rfl⟩ (by kernel_rfl) rfl plain (by kernel_rfl)
#print axioms proved
end Go.Proofs.YtfjfgjncmliadaaDoor.lawYMore
