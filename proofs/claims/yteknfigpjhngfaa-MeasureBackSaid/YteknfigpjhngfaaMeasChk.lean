/-
  The program's Check, and what Join asks and sums (areFor, sum). Conditions: the slices hold the units and the parts.
-/
import Derived.Test.YteknfigpjhngfaaMeasBase
import Derived.Test.YteknfigpjhngfaaRegion
namespace Go.Proofs.Yteknfigpjhngfaa
open Go.RowKit
open MeasPlain

/-! The closures. -/
theorem hasName_any (v : Un) (nm : ByteArray) (Bu : Nat) (w : World) (h : w.cell? ⟨Bu, 0, none⟩ = some (.string nm)) :
    Calls Try.prog 40 #[uV v, .pointer (some ⟨Bu, 0, none⟩)] w (BoolPost w (decide (v.1 = nm))) := by
  have AL : Aft w (w.alloc (.cells #[.string v.1, .int .i64 v.2] 44)) := (Aft.refl w).alloc _
  obtain ⟨t0, t1⟩ := two_cells w (.string v.1) (.int .i64 v.2) 44
  have h' := AL.cell h
  by_cases he : v.1 = nm
  · have hb : (v.1.toList == nm.toList) = true := by rw [he]; simp
    have HE := Lib.hid he
    clear he
    go_enter Try.func40, Try.ntmps40
    go_wp2
    go_ret
    exact ⟨by first | (rw [decide_eq_true HE.out]; done) | (rw [decide_eq_true HE.out]; rfl) | (rw [decide_eq_true HE.out]; simp), AL⟩
  · have hb : (v.1.toList == nm.toList) = false := by rw [toList_beq]; simp [he]
    have HE := Lib.hid he
    clear he
    go_enter Try.func40, Try.ntmps40
    go_wp2
    go_ret
    exact ⟨by first | (rw [decide_eq_false HE.out]; done) | (rw [decide_eq_false HE.out]; rfl) | (rw [decide_eq_false HE.out]; simp), AL⟩
theorem enterName (args : Array Value) (w : World) : (callFunc 40 args).run Try.prog w = .ok (.enter 40 args) w := by go_simp

set_option maxRecDepth 100000 in
set_option maxHeartbeats 1600000 in
theorem indexName_any (A : Option Addr) (n c : Nat) (us : List Un) (nm : ByteArray) (Bu : Nat) (w : World) (ha : Ul w A n c us) (hu : w.cell? ⟨Bu, 0, none⟩ = some (.string nm)) :
    Calls Try.prog 47 #[.slice A n c, .func (.func 40) #[] #[.pointer (some ⟨Bu, 0, none⟩)]] w (fun e w' => ∃ z : Int, e = .returned (.int .i64 z) ∧ decide (0 ≤ z) = nameIn us nm ∧ Aft w w') := by
  have hcf := enterName
  have hac := ha.le
  have hcm := ha.cmax
  have hmx := ha.max
  have hla := Lib.hid ha.len
  go_enter Try.func47, Try.ntmps47
  go_wp2
  go_loopw [8] (fun i wr => ∃ j : Nat, j ≤ n ∧ i = .int .i64 (j : Nat) ∧ nameIn us nm = nameIn (us.drop j) nm ∧ Aft w wr) (fun i _ => n - (intOf i).toNat)
  case atStart => exact ⟨0, Nat.zero_le _, rfl, rfl, Aft.refl _⟩
  case round =>
    obtain ⟨j, hj, rfl, he, haf⟩ := hrel
    have HE := Lib.hid he
    clear he
    by_cases hlt : j < n
    · obtain ⟨b, off, u, rfl, hx, g1, g2⟩ := ha.at_ hlt
      have c1 := haf.cell g1
      have c2 := haf.cell g2
      have hcall := hasName_any u nm Bu wr (haf.cell hu)
      have HS := Lib.hid (drop_of_get hx)
      have hji : (j : Int) < (n : Int) := by omega
      clear hx g1 g2
      have HH := Lib.hid (show decide (u.1 = nm) = decide (u.1 = nm) from rfl)
      generalize hh : decide (u.1 = nm) = q at hcall
      have HQ := Lib.hid hh
      have HC := Lib.hid hcall
      clear hh hcall HH
      cases q
      · go_wp2_with fail
        refine HC.out.mono ?_
        rintro e w1 ⟨rfl, N1⟩
        go_wp2
        go_roundw
        case rel => exact ⟨j + 1, by omega, by go_num, by rw [HE.out, HS.out]; unfold nameIn; rw [List.any_cons, HQ.out]; rfl, haf.trans N1⟩
        case measure => simp [intOf]; omega
      · go_wp2_with fail
        refine HC.out.mono ?_
        rintro e w1 ⟨rfl, N1⟩
        go_wp2
        go_ret
        exact ⟨(j : Int), rfl, by rw [HE.out, HS.out]; unfold nameIn; rw [List.any_cons, HQ.out]; simp, haf.trans N1⟩
    · obtain rfl : j = n := by omega
      go_wp2
      go_ret
      exact ⟨-1, rfl, by rw [HE.out, List.drop_of_length_le (by rw [hla.out]; exact Nat.le_refl _)]; rfl, haf⟩

theorem containsName_any (A : Option Addr) (n c : Nat) (us : List Un) (nm : ByteArray) (Bu : Nat) (w : World) (ha : Ul w A n c us) (hu : w.cell? ⟨Bu, 0, none⟩ = some (.string nm)) :
    Calls Try.prog 41 #[.slice A n c, .func (.func 40) #[] #[.pointer (some ⟨Bu, 0, none⟩)]] w (BoolPost w (nameIn us nm)) := by
  have H1 := Lib.hid (indexName_any A n c us nm Bu w ha hu)
  clear ha hu
  go_enter Try.func41, Try.ntmps41
  go_wp2_with fail
  refine H1.out.mono ?_
  rintro e w1 ⟨z, rfl, hz, N1⟩
  clear H1
  by_cases h0 : 0 ≤ z
  · rw [decide_eq_true h0] at hz
    have HZ := Lib.hid hz
    clear hz
    go_wp2
    go_ret
    exact ⟨by rw [← HZ.out]; rfl, N1⟩
  · rw [decide_eq_false h0] at hz
    have HZ := Lib.hid hz
    clear hz
    go_wp2
    go_ret
    exact ⟨by rw [← HZ.out]; simp; omega, N1⟩

def SamePost (w : World) (r : Bool) (e : Ending) (w' : World) : Prop := e = .returned (.bool r) ∧ w = w'
theorem stepB_rem {a b : Int} (_ : 1 ≤ a) (hb : 0 ≤ b) : b.tmod a = b % a := Int.tmod_eq_emod_of_nonneg hb

set_option maxHeartbeats 800000 in
theorem isStep_any (a b : Int) (w : World) (ha : 1 ≤ a) : Calls Try.prog 42 #[.int .i64 a, .int .i64 b] w (SamePost w (stepB a b)) := by
  have hne : ¬ a = 0 := by omega
  by_cases h1 : a < b
  · have hr := stepB_rem (b := b) ha (by omega)
    by_cases h2 : b ≤ 1000000
    · by_cases h3 : b % a = 0
      · have HV := Lib.hid (show stepB a b = true by unfold stepB; simp [h1, h2, h3])
        clear hr
        go_enter Try.func42, Try.ntmps42
        go_wp2
        go_ret
        exact ⟨by first | (rw [HV.out]; done) | (rw [HV.out]; rfl) | (rw [HV.out]; simp), rfl⟩
      · have HV := Lib.hid (show stepB a b = false by unfold stepB; simp [h1, h2, h3])
        have H3 := Lib.hid h3
        clear hr
        go_enter Try.func42, Try.ntmps42
        go_wp2
        go_ret
        exact ⟨by rw [HV.out]; simp; exact H3.out, rfl⟩
    · have HV := Lib.hid (show stepB a b = false by unfold stepB; simp [h2])
      clear hr
      go_enter Try.func42, Try.ntmps42
      go_wp2
      go_ret
      exact ⟨by first | (rw [HV.out]; done) | (rw [HV.out]; rfl) | (rw [HV.out]; simp), rfl⟩
  · have HV := Lib.hid (show stepB a b = false by unfold stepB; simp [h1])
    go_enter Try.func42, Try.ntmps42
    go_wp2
    go_ret
    exact ⟨by first | (rw [HV.out]; done) | (rw [HV.out]; rfl) | (rw [HV.out]; simp), rfl⟩

theorem good_next {us : List Un} {k : Nat} (h : ∀ j, j < k → goodAt us j = true) (hk : goodAt us k = true) : ∀ j, j < k + 1 → goodAt us j = true := by
  intro j hj
  by_cases e : j = k
  · subst e; exact hk
  · exact h j (by omega)
theorem size_pos {us : List Un} {k : Nat} (h0 : (us.map (·.2)).getD 0 0 = 1) (hl : k < us.length) (h : ∀ j, j < k + 1 → goodAt us j = true) : 1 ≤ (us.map (·.2)).getD k 0 := by
  induction k with
  | zero => rw [h0]; omega
  | succ k ih =>
    have h1 := ih (by omega) (fun j hj => h j (by omega))
    have hg := h (k + 1) (by omega)
    unfold goodAt at hg
    rw [List.getElem?_eq_getElem hl] at hg
    simp only [Bool.and_eq_true, Bool.or_eq_true, decide_eq_true_eq] at hg
    have h2 := stepB_facts (hg.2.resolve_left (by omega))
    rw [Nat.add_sub_cancel] at h2
    rw [getD_of (show (us.map (·.2))[k + 1]? = some (us[k + 1]'hl).2 by rw [List.getElem?_map, List.getElem?_eq_getElem hl]; rfl)]
    omega
theorem good_of {us : List Un} {k : Nat} {u : Un} (hu : us[k]? = some u) : goodAt us k = (!decide (u.1.size = 0) && !nameIn (us.take k) u.1 && (decide (k = 0) || stepB ((us.map (·.2)).getD (k - 1) 0) u.2)) := by
  unfold goodAt; rw [hu]

set_option maxRecDepth 100000 in
set_option maxHeartbeats 1600000 in
theorem isValid_any (A : Option Addr) (n c : Nat) (us : List Un) (w : World) (ha : Ul w A n c us) :
    Calls Try.prog 30 #[.slice A n c] w (BoolPost w (chk us)) := by
  have hac := ha.le
  have hcm := ha.cmax
  have hmx := ha.max
  have hlen := ha.len
  by_cases h1 : n = 0
  · subst h1
    have HV := Lib.hid (show chk us = false by unfold chk; rw [hlen]; rfl)
    clear hlen ha
    go_enter Try.func30, Try.ntmps30
    go_wp2
    go_ret
    exact ⟨by first | (rw [HV.out]; done) | (rw [HV.out]; rfl) | (rw [HV.out]; simp), Aft.refl _⟩
  · by_cases h8 : n ≤ 8
    · obtain ⟨b, off, u, rfl, hu, g1, g2⟩ := ha.at_ (k := 0) (by omega)
      simp only [Nat.zero_mul, Nat.add_zero] at g1 g2
      have hu0 : (us.map (·.2)).getD 0 0 = u.2 := getD_of (by rw [List.getElem?_map, hu]; rfl)
      have hn1 : ¬ (n : Int) = 0 := by omega
      have hn8 : ¬ (8 : Int) < (n : Int) := by omega
      have hn0 : (0 : Int) < (n : Int) := by omega
      by_cases hs : u.2 = 1
      · have HL := Lib.hid hlen
        have H0 := Lib.hid (show (us.map (·.2)).getD 0 0 = 1 by rw [hu0, hs])
        clear hlen hu0 hu
        go_enter Try.func30, Try.ntmps30
        go_wp2
        go_loopw [23] (fun i wr => ∃ k : Nat, k ≤ n ∧ i = .int .i64 (k : Nat) ∧ (∀ j, j < k → goodAt us j = true) ∧ Aft w wr) (fun i _ => n - (intOf i).toNat)
        case atStart => exact ⟨0, Nat.zero_le _, rfl, fun j hj => by omega, Aft.refl _⟩
        case round =>
          obtain ⟨k, hk, rfl, hgood, haf⟩ := hrel
          have HG := Lib.hid hgood
          clear hgood
          by_cases hlt : k < n
          · obtain ⟨b', off', x, hA, hx, d1, d2⟩ := ha.at_ hlt
            cases hA
            have c1 := haf.cell d1
            have c2 := haf.cell d2
            have hki : (k : Int) < (n : Int) := by omega
            have hkc : (k : Int) ≤ (c : Int) := by omega
            have HGo := Lib.hid (good_of hx)
            have AL : Aft wr (wr.alloc (.cells #[.string x.1, .int .i64 x.2] 44)) := (Aft.refl wr).alloc _
            obtain ⟨t0, t1⟩ := two_cells wr (.string x.1) (.int .i64 x.2) 44
            have HN := Lib.hid (fun w0 (a : Aft (wr.alloc (.cells #[.string x.1, .int .i64 x.2] 44)) w0) => containsName_any (some ⟨b, off, none⟩) k c (us.take k) x.1 wr.heap.size w0 ((ha.take hk).aft (haf.trans (AL.trans a))) (a.cell t0))
            have hem := empty_iff x.1
            have hkl : k < us.length := by rw [HL.out]; exact hlt
            clear d1 d2
            by_cases he : x.1.size = 0
            · rw [decide_eq_true he] at hem HGo
              have HB := Lib.hid (show chk us = false from chk_false hkl (by rw [HGo.out]; rfl))
              clear he hkl HGo HN hx
              go_wp2
              refine wp_region_held_drew (S := fun w' => Aft (wr.alloc (.cells #[.string x.1, .int .i64 x.2] 44)) w' ∧ w'.cell? ⟨wr.heap.size, 0, none⟩ = some (.string x.1) ∧ w'.cell? ⟨wr.heap.size, 1, none⟩ = some (.int .i64 x.2)) (by kernel_rfl) (⟨Below.drew (Aft.refl _), t0, t1⟩) (fun hHeld => ?_)
              refine take_on (i := 0) (v := ?v1) rfl (by kernel_rfl) (by kernel_rfl) (by kernel_rfl) (fun _ _ _ h => h) (by rfl) (by assumption) ?y1 ?_
              case y1 => (intro w hSw; (try dsimp only at hSw); go_simp; (try with_reducible rfl))
              try simp only [Act.put, List.setIfInBounds_toArray, List.set_cons_zero, List.set_cons_succ]
              refine take_on (i := 1) (v := ?v2) rfl (by kernel_rfl) (by kernel_rfl) (by kernel_rfl) (fun _ _ _ h => h) (by rfl) (by assumption) ?y2 ?_
              case y2 => (intro w hSw; (try dsimp only at hSw); go_simp; (try with_reducible rfl))
              try simp only [Act.put, List.setIfInBounds_toArray, List.set_cons_zero, List.set_cons_succ]
              refine take_on (i := 2) (v := ?v3) rfl (by kernel_rfl) (by kernel_rfl) (by kernel_rfl) (fun _ _ _ h => h) (by rfl) (by assumption) ?y3 ?_
              case y3 => (intro w hSw; (try dsimp only at hSw); go_simp; (try with_reducible rfl))
              try simp only [Act.put, List.setIfInBounds_toArray, List.set_cons_zero, List.set_cons_succ]
              refine take_on (i := 3) (v := ?v4) rfl (by kernel_rfl) (by kernel_rfl) (by kernel_rfl) (fun _ _ _ h => h) (by rfl) (by assumption) ?y4 ?_
              case y4 => (intro w hSw; (try dsimp only at hSw); go_simp; (try with_reducible rfl))
              try simp only [Act.put, List.setIfInBounds_toArray, List.set_cons_zero, List.set_cons_succ]
              refine take_off (i := 4) rfl (by kernel_rfl) (by kernel_rfl) (by kernel_rfl) (fun _ _ _ h => h) (by rfl) (by assumption) ?_
              try simp only [Act.put, List.setIfInBounds_toArray, List.set_cons_zero, List.set_cons_succ]
              refine take_off (i := 5) rfl (by kernel_rfl) (by kernel_rfl) (by kernel_rfl) (fun _ _ _ h => h) (by rfl) (by assumption) ?_
              try simp only [Act.put, List.setIfInBounds_toArray, List.set_cons_zero, List.set_cons_succ]
              refine take_off (i := 6) rfl (by kernel_rfl) (by kernel_rfl) (by kernel_rfl) (fun _ _ _ h => h) (by rfl) (by assumption) ?_
              try simp only [Act.put, List.setIfInBounds_toArray, List.set_cons_zero, List.set_cons_succ]
              refine take_off (i := 7) rfl (by kernel_rfl) (by kernel_rfl) (by kernel_rfl) (fun _ _ _ h => h) (by rfl) (by assumption) ?_
              try simp only [Act.put, List.setIfInBounds_toArray, List.set_cons_zero, List.set_cons_succ]
              refine take_off (i := 8) rfl (by kernel_rfl) (by kernel_rfl) (by kernel_rfl) (fun _ _ _ h => h) (by rfl) (by assumption) ?_
              try simp only [Act.put, List.setIfInBounds_toArray, List.set_cons_zero, List.set_cons_succ]
              refine take_on (i := 9) (v := ?v10) rfl (by kernel_rfl) (by kernel_rfl) (by kernel_rfl) (fun _ _ _ h => h) (by rfl) (by assumption) ?y10 ?_
              case y10 => (intro w hSw; (try dsimp only at hSw); go_simp; (try with_reducible rfl))
              try simp only [Act.put, List.setIfInBounds_toArray, List.set_cons_zero, List.set_cons_succ]
              refine take_on (i := 10) (v := ?v11) rfl (by kernel_rfl) (by kernel_rfl) (by kernel_rfl) (fun _ _ _ h => h) (by rfl) (by assumption) ?y11 ?_
              case y11 => (intro w hSw; (try dsimp only at hSw); go_simp; (try with_reducible rfl))
              try simp only [Act.put, List.setIfInBounds_toArray, List.set_cons_zero, List.set_cons_succ]
              refine take_off (i := 11) rfl (by kernel_rfl) (by kernel_rfl) (by kernel_rfl) (fun _ _ _ h => h) (by rfl) (by assumption) ?_
              try simp only [Act.put, List.setIfInBounds_toArray, List.set_cons_zero, List.set_cons_succ]
              refine take_off (i := 12) rfl (by kernel_rfl) (by kernel_rfl) (by kernel_rfl) (fun _ _ _ h => h) (by rfl) (by assumption) ?_
              try simp only [Act.put, List.setIfInBounds_toArray, List.set_cons_zero, List.set_cons_succ]
              refine take_off (i := 13) rfl (by kernel_rfl) (by kernel_rfl) (by kernel_rfl) (fun _ _ _ h => h) (by rfl) (by assumption) ?_
              try simp only [Act.put, List.setIfInBounds_toArray, List.set_cons_zero, List.set_cons_succ]
              refine take_off (i := 14) rfl (by kernel_rfl) (by kernel_rfl) (by kernel_rfl) (fun _ _ _ h => h) (by rfl) (by assumption) ?_
              try simp only [Act.put, List.setIfInBounds_toArray, List.set_cons_zero, List.set_cons_succ]
              refine take_off (i := 15) rfl (by kernel_rfl) (by kernel_rfl) (by kernel_rfl) (fun _ _ _ h => h) (by rfl) (by assumption) ?_
              try simp only [Act.put, List.setIfInBounds_toArray, List.set_cons_zero, List.set_cons_succ]
              refine take_off (i := 16) rfl (by kernel_rfl) (by kernel_rfl) (by kernel_rfl) (fun _ _ _ h => h) (by rfl) (by assumption) ?_
              try simp only [Act.put, List.setIfInBounds_toArray, List.set_cons_zero, List.set_cons_succ]
              refine take_off (i := 17) rfl (by kernel_rfl) (by kernel_rfl) (by kernel_rfl) (fun _ _ _ h => h) (by rfl) (by assumption) ?_
              try simp only [Act.put, List.setIfInBounds_toArray, List.set_cons_zero, List.set_cons_succ]
              refine take_off (i := 18) rfl (by kernel_rfl) (by kernel_rfl) (by kernel_rfl) (fun _ _ _ h => h) (by rfl) (by assumption) ?_
              try simp only [Act.put, List.setIfInBounds_toArray, List.set_cons_zero, List.set_cons_succ]
              refine take_off (i := 19) rfl (by kernel_rfl) (by kernel_rfl) (by kernel_rfl) (fun _ _ _ h => h) (by rfl) (by assumption) ?_
              try simp only [Act.put, List.setIfInBounds_toArray, List.set_cons_zero, List.set_cons_succ]
              refine take_off (i := 20) rfl (by kernel_rfl) (by kernel_rfl) (by kernel_rfl) (fun _ _ _ h => h) (by rfl) (by assumption) ?_
              try simp only [Act.put, List.setIfInBounds_toArray, List.set_cons_zero, List.set_cons_succ]
              refine take_off (i := 21) rfl (by kernel_rfl) (by kernel_rfl) (by kernel_rfl) (fun _ _ _ h => h) (by rfl) (by assumption) ?_
              try simp only [Act.put, List.setIfInBounds_toArray, List.set_cons_zero, List.set_cons_succ]
              refine take_off (i := 22) rfl (by kernel_rfl) (by kernel_rfl) (by kernel_rfl) (fun _ _ _ h => h) (by rfl) (by assumption) ?_
              try simp only [Act.put, List.setIfInBounds_toArray, List.set_cons_zero, List.set_cons_succ]
              refine take_off (i := 23) rfl (by kernel_rfl) (by kernel_rfl) (by kernel_rfl) (fun _ _ _ h => h) (by rfl) (by assumption) ?_
              try simp only [Act.put, List.setIfInBounds_toArray, List.set_cons_zero, List.set_cons_succ]
              refine take_off (i := 24) rfl (by kernel_rfl) (by kernel_rfl) (by kernel_rfl) (fun _ _ _ h => h) (by rfl) (by assumption) ?_
              try simp only [Act.put, List.setIfInBounds_toArray, List.set_cons_zero, List.set_cons_succ]
              refine take_on (i := 25) (v := ?v26) rfl (by kernel_rfl) (by kernel_rfl) (by kernel_rfl) (fun _ _ _ h => h) (by rfl) (by assumption) ?y26 ?_
              case y26 => (intro w hSw; (try dsimp only at hSw); go_simp; (try with_reducible rfl))
              try simp only [Act.put, List.setIfInBounds_toArray, List.set_cons_zero, List.set_cons_succ]
              refine wpAnyH_done (by kernel_rfl) ?_ _
              go_wp2
              go_ret
              exact ⟨by first | (rw [HB.out]; done) | (rw [HB.out]; rfl) | (rw [HB.out]; simp), haf.trans (AL.trans hHeld.1)⟩
            · rw [decide_eq_false he] at hem HGo
              clear he
              cases hq : nameIn (us.take k) x.1
              · rw [hq] at HN HGo
                clear hq
                by_cases hk0 : k = 0
                · rw [decide_eq_true hk0] at HGo
                  have HB := Lib.hid (show goodAt us k = true by rw [HGo.out]; rfl)
                  have hkz : ¬ (0 : Int) < (k : Int) := by omega
                  have hkz2 : decide (0 < k) = false := decide_eq_false (by omega)
                  clear HGo hkl hx hk0
                  go_wp2
                  refine wp_region_held_drew (S := fun w' => Aft (wr.alloc (.cells #[.string x.1, .int .i64 x.2] 44)) w' ∧ w'.cell? ⟨wr.heap.size, 0, none⟩ = some (.string x.1) ∧ w'.cell? ⟨wr.heap.size, 1, none⟩ = some (.int .i64 x.2)) (by kernel_rfl) (⟨Below.drew (Aft.refl _), t0, t1⟩) (fun hHeld => ?_)
                  refine take_on (i := 0) (v := ?v53) rfl (by kernel_rfl) (by kernel_rfl) (by kernel_rfl) (fun _ _ _ h => h) (by rfl) (by assumption) ?y53 ?_
                  case y53 => (intro w hSw; (try dsimp only at hSw); go_simp; (try with_reducible rfl))
                  try simp only [Act.put, List.setIfInBounds_toArray, List.set_cons_zero, List.set_cons_succ]
                  refine take_on (i := 1) (v := ?v54) rfl (by kernel_rfl) (by kernel_rfl) (by kernel_rfl) (fun _ _ _ h => h) (by rfl) (by assumption) ?y54 ?_
                  case y54 => (intro w hSw; (try dsimp only at hSw); go_simp; (try with_reducible rfl))
                  try simp only [Act.put, List.setIfInBounds_toArray, List.set_cons_zero, List.set_cons_succ]
                  refine take_on (i := 2) (v := ?v55) rfl (by kernel_rfl) (by kernel_rfl) (by kernel_rfl) (fun _ _ _ h => h) (by rfl) (by assumption) ?y55 ?_
                  case y55 => (intro w hSw; (try dsimp only at hSw); go_simp; (try with_reducible rfl))
                  try simp only [Act.put, List.setIfInBounds_toArray, List.set_cons_zero, List.set_cons_succ]
                  refine take_on (i := 3) (v := ?v56) rfl (by kernel_rfl) (by kernel_rfl) (by kernel_rfl) (fun _ _ _ h => h) (by rfl) (by assumption) ?y56 ?_
                  case y56 => (intro w hSw; (try dsimp only at hSw); go_simp; (try with_reducible rfl))
                  try simp only [Act.put, List.setIfInBounds_toArray, List.set_cons_zero, List.set_cons_succ]
                  refine take_on (i := 4) (v := ?v57) rfl (by kernel_rfl) (by kernel_rfl) (by kernel_rfl) (fun _ _ _ h => h) (by rfl) (by assumption) ?y57 ?_
                  case y57 => (intro w hSw; (try dsimp only at hSw); go_simp; (try with_reducible rfl))
                  try simp only [Act.put, List.setIfInBounds_toArray, List.set_cons_zero, List.set_cons_succ]
                  refine take_on (i := 5) (v := ?v58) rfl (by kernel_rfl) (by kernel_rfl) (by kernel_rfl) (fun _ _ _ h => h) (by rfl) (by assumption) ?y58 ?_
                  case y58 => (intro w hSw; (try dsimp only at hSw); go_simp; (try with_reducible rfl))
                  try simp only [Act.put, List.setIfInBounds_toArray, List.set_cons_zero, List.set_cons_succ]
                  refine take_on (i := 6) (v := ?v59) rfl (by kernel_rfl) (by kernel_rfl) (by kernel_rfl) (fun _ _ _ h => h) (by rfl) (by assumption) ?y59 ?_
                  case y59 => (intro w hSw; (try dsimp only at hSw); go_simp; (try with_reducible rfl))
                  try simp only [Act.put, List.setIfInBounds_toArray, List.set_cons_zero, List.set_cons_succ]
                  refine take_on (i := 7) (v := ?v60) rfl (by kernel_rfl) (by kernel_rfl) (by kernel_rfl) (fun _ _ _ h => h) (by rfl) (by assumption) ?y60 ?_
                  case y60 => (intro w hSw; (try dsimp only at hSw); go_simp; (try with_reducible rfl))
                  try simp only [Act.put, List.setIfInBounds_toArray, List.set_cons_zero, List.set_cons_succ]
                  refine one_ready (i := 8) rfl (by kernel_rfl) (by rfl) (fun K hK => ?_)
                  go_simp
                  go_at_call 41
                  refine (HN.out _ (by first | assumption | exact hHeld.1 | exact Below.drew hHeld.1)).mono ?_
                  rintro e' w' ⟨rfl, N9⟩
                  have hh : (fun w' => Aft (wr.alloc (.cells #[.string x.1, .int .i64 x.2] 44)) w' ∧ w'.cell? ⟨wr.heap.size, 0, none⟩ = some (.string x.1) ∧ w'.cell? ⟨wr.heap.size, 1, none⟩ = some (.int .i64 x.2)) w' := ⟨Aft.trans (by first | exact hHeld.1 | exact Below.drew hHeld.1) N9, N9.cell (by first | exact hHeld.2.1 | exact Aft.cell (Below.drew (Aft.refl _)) hHeld.2.1), N9.cell (by first | exact hHeld.2.2 | exact Aft.cell (Below.drew (Aft.refl _)) hHeld.2.2)⟩
                  clear N9
                  try go_simp
                  refine hK.out _ _ (by first | exact hh | exact ⟨Below.drew hh.1, hh.2⟩) (fun hHeld => ?_)
                  clear hK K
                  try simp only [Act.put, List.setIfInBounds_toArray, List.set_cons_zero, List.set_cons_succ]
                  refine take_on (i := 9) (v := ?v62) rfl (by kernel_rfl) (by kernel_rfl) (by kernel_rfl) (fun _ _ _ h => h) (by rfl) (by assumption) ?y62 ?_
                  case y62 => (intro w hSw; (try dsimp only at hSw); go_simp; (try with_reducible rfl))
                  try simp only [Act.put, List.setIfInBounds_toArray, List.set_cons_zero, List.set_cons_succ]
                  refine take_on (i := 10) (v := ?v63) rfl (by kernel_rfl) (by kernel_rfl) (by kernel_rfl) (fun _ _ _ h => h) (by rfl) (by assumption) ?y63 ?_
                  case y63 => (intro w hSw; (try dsimp only at hSw); go_simp; (try with_reducible rfl))
                  try simp only [Act.put, List.setIfInBounds_toArray, List.set_cons_zero, List.set_cons_succ]
                  refine take_on (i := 11) (v := ?v64) rfl (by kernel_rfl) (by kernel_rfl) (by kernel_rfl) (fun _ _ _ h => h) (by rfl) (by assumption) ?y64 ?_
                  case y64 => (intro w hSw; (try dsimp only at hSw); go_simp; (try with_reducible rfl))
                  try simp only [Act.put, List.setIfInBounds_toArray, List.set_cons_zero, List.set_cons_succ]
                  refine take_on (i := 12) (v := ?v65) rfl (by kernel_rfl) (by kernel_rfl) (by kernel_rfl) (fun _ _ _ h => h) (by rfl) (by assumption) ?y65 ?_
                  case y65 => (intro w hSw; (try dsimp only at hSw); go_simp; (try with_reducible rfl))
                  try simp only [Act.put, List.setIfInBounds_toArray, List.set_cons_zero, List.set_cons_succ]
                  refine take_on (i := 13) (v := ?v66) rfl (by kernel_rfl) (by kernel_rfl) (by kernel_rfl) (fun _ _ _ h => h) (by rfl) (by assumption) ?y66 ?_
                  case y66 => (intro w hSw; (try dsimp only at hSw); go_simp; (try with_reducible rfl))
                  try simp only [Act.put, List.setIfInBounds_toArray, List.set_cons_zero, List.set_cons_succ]
                  refine take_off (i := 14) rfl (by kernel_rfl) (by kernel_rfl) (by kernel_rfl) (fun _ _ _ h => h) (by rfl) (by assumption) ?_
                  try simp only [Act.put, List.setIfInBounds_toArray, List.set_cons_zero, List.set_cons_succ]
                  refine take_off (i := 15) rfl (by kernel_rfl) (by kernel_rfl) (by kernel_rfl) (fun _ _ _ h => h) (by rfl) (by assumption) ?_
                  try simp only [Act.put, List.setIfInBounds_toArray, List.set_cons_zero, List.set_cons_succ]
                  refine take_off (i := 16) rfl (by kernel_rfl) (by kernel_rfl) (by kernel_rfl) (fun _ _ _ h => h) (by rfl) (by assumption) ?_
                  try simp only [Act.put, List.setIfInBounds_toArray, List.set_cons_zero, List.set_cons_succ]
                  refine take_off (i := 17) rfl (by kernel_rfl) (by kernel_rfl) (by kernel_rfl) (fun _ _ _ h => h) (by rfl) (by assumption) ?_
                  try simp only [Act.put, List.setIfInBounds_toArray, List.set_cons_zero, List.set_cons_succ]
                  refine take_off (i := 18) rfl (by kernel_rfl) (by kernel_rfl) (by kernel_rfl) (fun _ _ _ h => h) (by rfl) (by assumption) ?_
                  try simp only [Act.put, List.setIfInBounds_toArray, List.set_cons_zero, List.set_cons_succ]
                  refine take_off (i := 19) rfl (by kernel_rfl) (by kernel_rfl) (by kernel_rfl) (fun _ _ _ h => h) (by rfl) (by assumption) ?_
                  try simp only [Act.put, List.setIfInBounds_toArray, List.set_cons_zero, List.set_cons_succ]
                  refine take_off (i := 20) rfl (by kernel_rfl) (by kernel_rfl) (by kernel_rfl) (fun _ _ _ h => h) (by rfl) (by assumption) ?_
                  try simp only [Act.put, List.setIfInBounds_toArray, List.set_cons_zero, List.set_cons_succ]
                  refine take_off (i := 21) rfl (by kernel_rfl) (by kernel_rfl) (by kernel_rfl) (fun _ _ _ h => h) (by rfl) (by assumption) ?_
                  try simp only [Act.put, List.setIfInBounds_toArray, List.set_cons_zero, List.set_cons_succ]
                  refine take_off (i := 22) rfl (by kernel_rfl) (by kernel_rfl) (by kernel_rfl) (fun _ _ _ h => h) (by rfl) (by assumption) ?_
                  try simp only [Act.put, List.setIfInBounds_toArray, List.set_cons_zero, List.set_cons_succ]
                  refine take_off (i := 23) rfl (by kernel_rfl) (by kernel_rfl) (by kernel_rfl) (fun _ _ _ h => h) (by rfl) (by assumption) ?_
                  try simp only [Act.put, List.setIfInBounds_toArray, List.set_cons_zero, List.set_cons_succ]
                  refine take_on (i := 24) (v := ?v77) rfl (by kernel_rfl) (by kernel_rfl) (by kernel_rfl) (fun _ _ _ h => h) (by rfl) (by assumption) ?y77 ?_
                  case y77 => (intro w hSw; (try dsimp only at hSw); go_simp; (try with_reducible rfl))
                  try simp only [Act.put, List.setIfInBounds_toArray, List.set_cons_zero, List.set_cons_succ]
                  refine take_on (i := 25) (v := ?v78) rfl (by kernel_rfl) (by kernel_rfl) (by kernel_rfl) (fun _ _ _ h => h) (by rfl) (by assumption) ?y78 ?_
                  case y78 => (intro w hSw; (try dsimp only at hSw); go_simp; (try with_reducible rfl))
                  try simp only [Act.put, List.setIfInBounds_toArray, List.set_cons_zero, List.set_cons_succ]
                  refine wpAnyH_done (by kernel_rfl) ?_ _
                  go_wp2
                  go_roundw
                  case rel => exact ⟨k + 1, by omega, by go_num, good_next HG.out HB.out, haf.trans (AL.trans hHeld.1)⟩
                  case measure => simp [intOf]; omega
                · obtain ⟨q, hqk⟩ : ∃ q, q = k - 1 := ⟨_, rfl⟩
                  have hqi : (k : Int) - 1 = (q : Int) := by omega
                  have hqn : q < n := by omega
                  have hqn' : (q : Int) < (n : Int) := by omega
                  have hwq : IntKind.i64.wrap (q : Int) = (q : Int) := wrap_small _ (by omega) (by omega)
                  obtain ⟨b2, off2, y, hA, hy, e1, e2⟩ := ha.at_ hqn
                  cases hA
                  have e2' := haf.cell e2
                  have e2'' := AL.cell e2'
                  have hyq : (us.map (·.2)).getD (k - 1) 0 = y.2 := getD_of (by rw [← hqk, List.getElem?_map, hy]; rfl)
                  have hy1 : 1 ≤ y.2 := by
                    have h := size_pos H0.out (k := q) (by rw [HL.out]; exact hqn) (fun j hj => HG.out j (by omega))
                    rwa [hqk, hyq] at h
                  have hst := fun w0 => isStep_any y.2 x.2 w0 hy1
                  have hkz : (0 : Int) < (k : Int) := by omega
                  have hkz2 : decide (0 < k) = true := decide_eq_true (by omega)
                  rw [hyq, decide_eq_false hk0] at HGo
                  have HK := Lib.hid (show k = q + 1 by omega)
                  clear hqk hy hyq e1 e2 hk0
                  generalize stepB y.2 x.2 = sb at *
                  have HST := Lib.hid hst
                  clear hst
                  cases sb
                  · have HB := Lib.hid (show chk us = false from chk_false hkl (by rw [HGo.out]; rfl))
                    clear HGo hkl hx
                    go_wp2
                    refine wp_region_held_drew (S := fun w' => Aft (wr.alloc (.cells #[.string x.1, .int .i64 x.2] 44)) w' ∧ w'.cell? ⟨wr.heap.size, 0, none⟩ = some (.string x.1) ∧ w'.cell? ⟨wr.heap.size, 1, none⟩ = some (.int .i64 x.2) ∧ w'.cell? ⟨b, off + q * 2 + 1, none⟩ = some (.int .i64 y.2)) (by kernel_rfl) (⟨Below.drew (Aft.refl _), t0, t1, e2''⟩) (fun hHeld => ?_)
                    refine take_on (i := 0) (v := ?v79) rfl (by kernel_rfl) (by kernel_rfl) (by kernel_rfl) (fun _ _ _ h => h) (by rfl) (by assumption) ?y79 ?_
                    case y79 => (intro w hSw; (try dsimp only at hSw); go_simp; (try with_reducible rfl))
                    try simp only [Act.put, List.setIfInBounds_toArray, List.set_cons_zero, List.set_cons_succ]
                    refine take_on (i := 1) (v := ?v80) rfl (by kernel_rfl) (by kernel_rfl) (by kernel_rfl) (fun _ _ _ h => h) (by rfl) (by assumption) ?y80 ?_
                    case y80 => (intro w hSw; (try dsimp only at hSw); go_simp; (try with_reducible rfl))
                    try simp only [Act.put, List.setIfInBounds_toArray, List.set_cons_zero, List.set_cons_succ]
                    refine take_on (i := 2) (v := ?v81) rfl (by kernel_rfl) (by kernel_rfl) (by kernel_rfl) (fun _ _ _ h => h) (by rfl) (by assumption) ?y81 ?_
                    case y81 => (intro w hSw; (try dsimp only at hSw); go_simp; (try with_reducible rfl))
                    try simp only [Act.put, List.setIfInBounds_toArray, List.set_cons_zero, List.set_cons_succ]
                    refine take_on (i := 3) (v := ?v82) rfl (by kernel_rfl) (by kernel_rfl) (by kernel_rfl) (fun _ _ _ h => h) (by rfl) (by assumption) ?y82 ?_
                    case y82 => (intro w hSw; (try dsimp only at hSw); go_simp; (try with_reducible rfl))
                    try simp only [Act.put, List.setIfInBounds_toArray, List.set_cons_zero, List.set_cons_succ]
                    refine take_on (i := 4) (v := ?v83) rfl (by kernel_rfl) (by kernel_rfl) (by kernel_rfl) (fun _ _ _ h => h) (by rfl) (by assumption) ?y83 ?_
                    case y83 => (intro w hSw; (try dsimp only at hSw); go_simp; (try with_reducible rfl))
                    try simp only [Act.put, List.setIfInBounds_toArray, List.set_cons_zero, List.set_cons_succ]
                    refine take_on (i := 5) (v := ?v84) rfl (by kernel_rfl) (by kernel_rfl) (by kernel_rfl) (fun _ _ _ h => h) (by rfl) (by assumption) ?y84 ?_
                    case y84 => (intro w hSw; (try dsimp only at hSw); go_simp; (try with_reducible rfl))
                    try simp only [Act.put, List.setIfInBounds_toArray, List.set_cons_zero, List.set_cons_succ]
                    refine take_on (i := 6) (v := ?v85) rfl (by kernel_rfl) (by kernel_rfl) (by kernel_rfl) (fun _ _ _ h => h) (by rfl) (by assumption) ?y85 ?_
                    case y85 => (intro w hSw; (try dsimp only at hSw); go_simp; (try with_reducible rfl))
                    try simp only [Act.put, List.setIfInBounds_toArray, List.set_cons_zero, List.set_cons_succ]
                    refine take_on (i := 7) (v := ?v86) rfl (by kernel_rfl) (by kernel_rfl) (by kernel_rfl) (fun _ _ _ h => h) (by rfl) (by assumption) ?y86 ?_
                    case y86 => (intro w hSw; (try dsimp only at hSw); go_simp; (try with_reducible rfl))
                    try simp only [Act.put, List.setIfInBounds_toArray, List.set_cons_zero, List.set_cons_succ]
                    refine one_ready (i := 8) rfl (by kernel_rfl) (by rfl) (fun K hK => ?_)
                    go_simp
                    go_at_call 41
                    refine (HN.out _ (by first | assumption | exact hHeld.1 | exact Below.drew hHeld.1)).mono ?_
                    rintro e' w' ⟨rfl, N9⟩
                    have hh : (fun w' => Aft (wr.alloc (.cells #[.string x.1, .int .i64 x.2] 44)) w' ∧ w'.cell? ⟨wr.heap.size, 0, none⟩ = some (.string x.1) ∧ w'.cell? ⟨wr.heap.size, 1, none⟩ = some (.int .i64 x.2) ∧ w'.cell? ⟨b, off + q * 2 + 1, none⟩ = some (.int .i64 y.2)) w' := ⟨Aft.trans (by first | exact hHeld.1 | exact Below.drew hHeld.1) N9, N9.cell (by first | exact hHeld.2.1 | exact Aft.cell (Below.drew (Aft.refl _)) hHeld.2.1), N9.cell (by first | exact hHeld.2.2.1 | exact Aft.cell (Below.drew (Aft.refl _)) hHeld.2.2.1), N9.cell (by first | exact hHeld.2.2.2 | exact Aft.cell (Below.drew (Aft.refl _)) hHeld.2.2.2)⟩
                    clear N9
                    try go_simp
                    refine hK.out _ _ (by first | exact hh | exact ⟨Below.drew hh.1, hh.2⟩) (fun hHeld => ?_)
                    clear hK K
                    try simp only [Act.put, List.setIfInBounds_toArray, List.set_cons_zero, List.set_cons_succ]
                    refine take_on (i := 9) (v := ?v88) rfl (by kernel_rfl) (by kernel_rfl) (by kernel_rfl) (fun _ _ _ h => h) (by rfl) (by assumption) ?y88 ?_
                    case y88 => (intro w hSw; (try dsimp only at hSw); go_simp; (try with_reducible rfl))
                    try simp only [Act.put, List.setIfInBounds_toArray, List.set_cons_zero, List.set_cons_succ]
                    refine take_on (i := 10) (v := ?v89) rfl (by kernel_rfl) (by kernel_rfl) (by kernel_rfl) (fun _ _ _ h => h) (by rfl) (by assumption) ?y89 ?_
                    case y89 => (intro w hSw; (try dsimp only at hSw); go_simp; (try with_reducible rfl))
                    try simp only [Act.put, List.setIfInBounds_toArray, List.set_cons_zero, List.set_cons_succ]
                    refine take_on (i := 11) (v := ?v90) rfl (by kernel_rfl) (by kernel_rfl) (by kernel_rfl) (fun _ _ _ h => h) (by rfl) (by assumption) ?y90 ?_
                    case y90 => (intro w hSw; (try dsimp only at hSw); go_simp; (try with_reducible rfl))
                    try simp only [Act.put, List.setIfInBounds_toArray, List.set_cons_zero, List.set_cons_succ]
                    refine take_on (i := 12) (v := ?v91) rfl (by kernel_rfl) (by kernel_rfl) (by kernel_rfl) (fun _ _ _ h => h) (by rfl) (by assumption) ?y91 ?_
                    case y91 => (intro w hSw; (try dsimp only at hSw); go_simp; (try with_reducible rfl))
                    try simp only [Act.put, List.setIfInBounds_toArray, List.set_cons_zero, List.set_cons_succ]
                    refine take_on (i := 13) (v := ?v92) rfl (by kernel_rfl) (by kernel_rfl) (by kernel_rfl) (fun _ _ _ h => h) (by rfl) (by assumption) ?y92 ?_
                    case y92 => (intro w hSw; (try dsimp only at hSw); go_simp; (try with_reducible rfl))
                    try simp only [Act.put, List.setIfInBounds_toArray, List.set_cons_zero, List.set_cons_succ]
                    refine take_on (i := 14) (v := ?v93) rfl (by kernel_rfl) (by kernel_rfl) (by kernel_rfl) (fun _ _ _ h => h) (by rfl) (by assumption) ?y93 ?_
                    case y93 => (intro w hSw; (try dsimp only at hSw); go_simp; (try with_reducible rfl))
                    try simp only [Act.put, List.setIfInBounds_toArray, List.set_cons_zero, List.set_cons_succ]
                    refine take_on (i := 15) (v := ?v94) rfl (by kernel_rfl) (by kernel_rfl) (by kernel_rfl) (fun _ _ _ h => h) (by rfl) (by assumption) ?y94 ?_
                    case y94 => (intro w hSw; (try dsimp only at hSw); go_simp; (try with_reducible rfl))
                    try simp only [Act.put, List.setIfInBounds_toArray, List.set_cons_zero, List.set_cons_succ]
                    refine take_on (i := 16) (v := ?v95) rfl (by kernel_rfl) (by kernel_rfl) (by kernel_rfl) (fun _ _ _ h => h) (by rfl) (by assumption) ?y95 ?_
                    case y95 => (intro w hSw; (try dsimp only at hSw); go_simp; (try with_reducible rfl))
                    try simp only [Act.put, List.setIfInBounds_toArray, List.set_cons_zero, List.set_cons_succ]
                    refine take_on (i := 17) (v := ?v96) rfl (by kernel_rfl) (by kernel_rfl) (by kernel_rfl) (fun _ _ _ h => h) (by rfl) (by assumption) ?y96 ?_
                    case y96 => (intro w hSw; (try dsimp only at hSw); go_simp; (try with_reducible rfl))
                    try simp only [Act.put, List.setIfInBounds_toArray, List.set_cons_zero, List.set_cons_succ]
                    refine take_on (i := 18) (v := ?v97) rfl (by kernel_rfl) (by kernel_rfl) (by kernel_rfl) (fun _ _ _ h => h) (by rfl) (by assumption) ?y97 ?_
                    case y97 => (intro w hSw; (try dsimp only at hSw); go_simp; (try with_reducible rfl))
                    try simp only [Act.put, List.setIfInBounds_toArray, List.set_cons_zero, List.set_cons_succ]
                    refine take_on (i := 19) (v := ?v98) rfl (by kernel_rfl) (by kernel_rfl) (by kernel_rfl) (fun _ _ _ h => h) (by rfl) (by assumption) ?y98 ?_
                    case y98 => (intro w hSw; (try dsimp only at hSw); go_simp; (try with_reducible rfl))
                    try simp only [Act.put, List.setIfInBounds_toArray, List.set_cons_zero, List.set_cons_succ]
                    refine take_on (i := 20) (v := ?v99) rfl (by kernel_rfl) (by kernel_rfl) (by kernel_rfl) (fun _ _ _ h => h) (by rfl) (by assumption) ?y99 ?_
                    case y99 => (intro w hSw; (try dsimp only at hSw); go_simp; (try with_reducible rfl))
                    try simp only [Act.put, List.setIfInBounds_toArray, List.set_cons_zero, List.set_cons_succ]
                    refine take_on (i := 21) (v := ?v100) rfl (by kernel_rfl) (by kernel_rfl) (by kernel_rfl) (fun _ _ _ h => h) (by rfl) (by assumption) ?y100 ?_
                    case y100 => (intro w hSw; (try dsimp only at hSw); go_simp; (try with_reducible rfl))
                    try simp only [Act.put, List.setIfInBounds_toArray, List.set_cons_zero, List.set_cons_succ]
                    refine one_ready (i := 22) rfl (by kernel_rfl) (by rfl) (fun K hK => ?_)
                    go_simp
                    go_at_call 42
                    refine (HST.out _).mono ?_
                    rintro e' w' ⟨rfl, rfl⟩
                    have hh := hHeld
                    try go_simp
                    refine hK.out _ _ (by first | exact hh | exact ⟨Below.drew hh.1, hh.2⟩) (fun hHeld => ?_)
                    clear hK K
                    try simp only [Act.put, List.setIfInBounds_toArray, List.set_cons_zero, List.set_cons_succ]
                    refine take_on (i := 23) (v := ?v102) rfl (by kernel_rfl) (by kernel_rfl) (by kernel_rfl) (fun _ _ _ h => h) (by rfl) (by assumption) ?y102 ?_
                    case y102 => (intro w hSw; (try dsimp only at hSw); go_simp; (try with_reducible rfl))
                    try simp only [Act.put, List.setIfInBounds_toArray, List.set_cons_zero, List.set_cons_succ]
                    refine take_on (i := 24) (v := ?v103) rfl (by kernel_rfl) (by kernel_rfl) (by kernel_rfl) (fun _ _ _ h => h) (by rfl) (by assumption) ?y103 ?_
                    case y103 => (intro w hSw; (try dsimp only at hSw); go_simp; (try with_reducible rfl))
                    try simp only [Act.put, List.setIfInBounds_toArray, List.set_cons_zero, List.set_cons_succ]
                    refine take_on (i := 25) (v := ?v104) rfl (by kernel_rfl) (by kernel_rfl) (by kernel_rfl) (fun _ _ _ h => h) (by rfl) (by assumption) ?y104 ?_
                    case y104 => (intro w hSw; (try dsimp only at hSw); go_simp; (try with_reducible rfl))
                    try simp only [Act.put, List.setIfInBounds_toArray, List.set_cons_zero, List.set_cons_succ]
                    refine wpAnyH_done (by kernel_rfl) ?_ _
                    go_wp2
                    go_ret
                    exact ⟨by first | (rw [HB.out]; done) | (rw [HB.out]; rfl) | (rw [HB.out]; simp), haf.trans (AL.trans hHeld.1)⟩
                  · have HB := Lib.hid (show goodAt us k = true by rw [HGo.out]; rfl)
                    clear HGo hkl hx
                    go_wp2
                    refine wp_region_held_drew (S := fun w' => Aft (wr.alloc (.cells #[.string x.1, .int .i64 x.2] 44)) w' ∧ w'.cell? ⟨wr.heap.size, 0, none⟩ = some (.string x.1) ∧ w'.cell? ⟨wr.heap.size, 1, none⟩ = some (.int .i64 x.2) ∧ w'.cell? ⟨b, off + q * 2 + 1, none⟩ = some (.int .i64 y.2)) (by kernel_rfl) (⟨Below.drew (Aft.refl _), t0, t1, e2''⟩) (fun hHeld => ?_)
                    refine take_on (i := 0) (v := ?v105) rfl (by kernel_rfl) (by kernel_rfl) (by kernel_rfl) (fun _ _ _ h => h) (by rfl) (by assumption) ?y105 ?_
                    case y105 => (intro w hSw; (try dsimp only at hSw); go_simp; (try with_reducible rfl))
                    try simp only [Act.put, List.setIfInBounds_toArray, List.set_cons_zero, List.set_cons_succ]
                    refine take_on (i := 1) (v := ?v106) rfl (by kernel_rfl) (by kernel_rfl) (by kernel_rfl) (fun _ _ _ h => h) (by rfl) (by assumption) ?y106 ?_
                    case y106 => (intro w hSw; (try dsimp only at hSw); go_simp; (try with_reducible rfl))
                    try simp only [Act.put, List.setIfInBounds_toArray, List.set_cons_zero, List.set_cons_succ]
                    refine take_on (i := 2) (v := ?v107) rfl (by kernel_rfl) (by kernel_rfl) (by kernel_rfl) (fun _ _ _ h => h) (by rfl) (by assumption) ?y107 ?_
                    case y107 => (intro w hSw; (try dsimp only at hSw); go_simp; (try with_reducible rfl))
                    try simp only [Act.put, List.setIfInBounds_toArray, List.set_cons_zero, List.set_cons_succ]
                    refine take_on (i := 3) (v := ?v108) rfl (by kernel_rfl) (by kernel_rfl) (by kernel_rfl) (fun _ _ _ h => h) (by rfl) (by assumption) ?y108 ?_
                    case y108 => (intro w hSw; (try dsimp only at hSw); go_simp; (try with_reducible rfl))
                    try simp only [Act.put, List.setIfInBounds_toArray, List.set_cons_zero, List.set_cons_succ]
                    refine take_on (i := 4) (v := ?v109) rfl (by kernel_rfl) (by kernel_rfl) (by kernel_rfl) (fun _ _ _ h => h) (by rfl) (by assumption) ?y109 ?_
                    case y109 => (intro w hSw; (try dsimp only at hSw); go_simp; (try with_reducible rfl))
                    try simp only [Act.put, List.setIfInBounds_toArray, List.set_cons_zero, List.set_cons_succ]
                    refine take_on (i := 5) (v := ?v110) rfl (by kernel_rfl) (by kernel_rfl) (by kernel_rfl) (fun _ _ _ h => h) (by rfl) (by assumption) ?y110 ?_
                    case y110 => (intro w hSw; (try dsimp only at hSw); go_simp; (try with_reducible rfl))
                    try simp only [Act.put, List.setIfInBounds_toArray, List.set_cons_zero, List.set_cons_succ]
                    refine take_on (i := 6) (v := ?v111) rfl (by kernel_rfl) (by kernel_rfl) (by kernel_rfl) (fun _ _ _ h => h) (by rfl) (by assumption) ?y111 ?_
                    case y111 => (intro w hSw; (try dsimp only at hSw); go_simp; (try with_reducible rfl))
                    try simp only [Act.put, List.setIfInBounds_toArray, List.set_cons_zero, List.set_cons_succ]
                    refine take_on (i := 7) (v := ?v112) rfl (by kernel_rfl) (by kernel_rfl) (by kernel_rfl) (fun _ _ _ h => h) (by rfl) (by assumption) ?y112 ?_
                    case y112 => (intro w hSw; (try dsimp only at hSw); go_simp; (try with_reducible rfl))
                    try simp only [Act.put, List.setIfInBounds_toArray, List.set_cons_zero, List.set_cons_succ]
                    refine one_ready (i := 8) rfl (by kernel_rfl) (by rfl) (fun K hK => ?_)
                    go_simp
                    go_at_call 41
                    refine (HN.out _ (by first | assumption | exact hHeld.1 | exact Below.drew hHeld.1)).mono ?_
                    rintro e' w' ⟨rfl, N9⟩
                    have hh : (fun w' => Aft (wr.alloc (.cells #[.string x.1, .int .i64 x.2] 44)) w' ∧ w'.cell? ⟨wr.heap.size, 0, none⟩ = some (.string x.1) ∧ w'.cell? ⟨wr.heap.size, 1, none⟩ = some (.int .i64 x.2) ∧ w'.cell? ⟨b, off + q * 2 + 1, none⟩ = some (.int .i64 y.2)) w' := ⟨Aft.trans (by first | exact hHeld.1 | exact Below.drew hHeld.1) N9, N9.cell (by first | exact hHeld.2.1 | exact Aft.cell (Below.drew (Aft.refl _)) hHeld.2.1), N9.cell (by first | exact hHeld.2.2.1 | exact Aft.cell (Below.drew (Aft.refl _)) hHeld.2.2.1), N9.cell (by first | exact hHeld.2.2.2 | exact Aft.cell (Below.drew (Aft.refl _)) hHeld.2.2.2)⟩
                    clear N9
                    try go_simp
                    refine hK.out _ _ (by first | exact hh | exact ⟨Below.drew hh.1, hh.2⟩) (fun hHeld => ?_)
                    clear hK K
                    try simp only [Act.put, List.setIfInBounds_toArray, List.set_cons_zero, List.set_cons_succ]
                    refine take_on (i := 9) (v := ?v114) rfl (by kernel_rfl) (by kernel_rfl) (by kernel_rfl) (fun _ _ _ h => h) (by rfl) (by assumption) ?y114 ?_
                    case y114 => (intro w hSw; (try dsimp only at hSw); go_simp; (try with_reducible rfl))
                    try simp only [Act.put, List.setIfInBounds_toArray, List.set_cons_zero, List.set_cons_succ]
                    refine take_on (i := 10) (v := ?v115) rfl (by kernel_rfl) (by kernel_rfl) (by kernel_rfl) (fun _ _ _ h => h) (by rfl) (by assumption) ?y115 ?_
                    case y115 => (intro w hSw; (try dsimp only at hSw); go_simp; (try with_reducible rfl))
                    try simp only [Act.put, List.setIfInBounds_toArray, List.set_cons_zero, List.set_cons_succ]
                    refine take_on (i := 11) (v := ?v116) rfl (by kernel_rfl) (by kernel_rfl) (by kernel_rfl) (fun _ _ _ h => h) (by rfl) (by assumption) ?y116 ?_
                    case y116 => (intro w hSw; (try dsimp only at hSw); go_simp; (try with_reducible rfl))
                    try simp only [Act.put, List.setIfInBounds_toArray, List.set_cons_zero, List.set_cons_succ]
                    refine take_on (i := 12) (v := ?v117) rfl (by kernel_rfl) (by kernel_rfl) (by kernel_rfl) (fun _ _ _ h => h) (by rfl) (by assumption) ?y117 ?_
                    case y117 => (intro w hSw; (try dsimp only at hSw); go_simp; (try with_reducible rfl))
                    try simp only [Act.put, List.setIfInBounds_toArray, List.set_cons_zero, List.set_cons_succ]
                    refine take_on (i := 13) (v := ?v118) rfl (by kernel_rfl) (by kernel_rfl) (by kernel_rfl) (fun _ _ _ h => h) (by rfl) (by assumption) ?y118 ?_
                    case y118 => (intro w hSw; (try dsimp only at hSw); go_simp; (try with_reducible rfl))
                    try simp only [Act.put, List.setIfInBounds_toArray, List.set_cons_zero, List.set_cons_succ]
                    refine take_on (i := 14) (v := ?v119) rfl (by kernel_rfl) (by kernel_rfl) (by kernel_rfl) (fun _ _ _ h => h) (by rfl) (by assumption) ?y119 ?_
                    case y119 => (intro w hSw; (try dsimp only at hSw); go_simp; (try with_reducible rfl))
                    try simp only [Act.put, List.setIfInBounds_toArray, List.set_cons_zero, List.set_cons_succ]
                    refine take_on (i := 15) (v := ?v120) rfl (by kernel_rfl) (by kernel_rfl) (by kernel_rfl) (fun _ _ _ h => h) (by rfl) (by assumption) ?y120 ?_
                    case y120 => (intro w hSw; (try dsimp only at hSw); go_simp; (try with_reducible rfl))
                    try simp only [Act.put, List.setIfInBounds_toArray, List.set_cons_zero, List.set_cons_succ]
                    refine take_on (i := 16) (v := ?v121) rfl (by kernel_rfl) (by kernel_rfl) (by kernel_rfl) (fun _ _ _ h => h) (by rfl) (by assumption) ?y121 ?_
                    case y121 => (intro w hSw; (try dsimp only at hSw); go_simp; (try with_reducible rfl))
                    try simp only [Act.put, List.setIfInBounds_toArray, List.set_cons_zero, List.set_cons_succ]
                    refine take_on (i := 17) (v := ?v122) rfl (by kernel_rfl) (by kernel_rfl) (by kernel_rfl) (fun _ _ _ h => h) (by rfl) (by assumption) ?y122 ?_
                    case y122 => (intro w hSw; (try dsimp only at hSw); go_simp; (try with_reducible rfl))
                    try simp only [Act.put, List.setIfInBounds_toArray, List.set_cons_zero, List.set_cons_succ]
                    refine take_on (i := 18) (v := ?v123) rfl (by kernel_rfl) (by kernel_rfl) (by kernel_rfl) (fun _ _ _ h => h) (by rfl) (by assumption) ?y123 ?_
                    case y123 => (intro w hSw; (try dsimp only at hSw); go_simp; (try with_reducible rfl))
                    try simp only [Act.put, List.setIfInBounds_toArray, List.set_cons_zero, List.set_cons_succ]
                    refine take_on (i := 19) (v := ?v124) rfl (by kernel_rfl) (by kernel_rfl) (by kernel_rfl) (fun _ _ _ h => h) (by rfl) (by assumption) ?y124 ?_
                    case y124 => (intro w hSw; (try dsimp only at hSw); go_simp; (try with_reducible rfl))
                    try simp only [Act.put, List.setIfInBounds_toArray, List.set_cons_zero, List.set_cons_succ]
                    refine take_on (i := 20) (v := ?v125) rfl (by kernel_rfl) (by kernel_rfl) (by kernel_rfl) (fun _ _ _ h => h) (by rfl) (by assumption) ?y125 ?_
                    case y125 => (intro w hSw; (try dsimp only at hSw); go_simp; (try with_reducible rfl))
                    try simp only [Act.put, List.setIfInBounds_toArray, List.set_cons_zero, List.set_cons_succ]
                    refine take_on (i := 21) (v := ?v126) rfl (by kernel_rfl) (by kernel_rfl) (by kernel_rfl) (fun _ _ _ h => h) (by rfl) (by assumption) ?y126 ?_
                    case y126 => (intro w hSw; (try dsimp only at hSw); go_simp; (try with_reducible rfl))
                    try simp only [Act.put, List.setIfInBounds_toArray, List.set_cons_zero, List.set_cons_succ]
                    refine one_ready (i := 22) rfl (by kernel_rfl) (by rfl) (fun K hK => ?_)
                    go_simp
                    go_at_call 42
                    refine (HST.out _).mono ?_
                    rintro e' w' ⟨rfl, rfl⟩
                    have hh := hHeld
                    try go_simp
                    refine hK.out _ _ (by first | exact hh | exact ⟨Below.drew hh.1, hh.2⟩) (fun hHeld => ?_)
                    clear hK K
                    try simp only [Act.put, List.setIfInBounds_toArray, List.set_cons_zero, List.set_cons_succ]
                    refine take_on (i := 23) (v := ?v128) rfl (by kernel_rfl) (by kernel_rfl) (by kernel_rfl) (fun _ _ _ h => h) (by rfl) (by assumption) ?y128 ?_
                    case y128 => (intro w hSw; (try dsimp only at hSw); go_simp; (try with_reducible rfl))
                    try simp only [Act.put, List.setIfInBounds_toArray, List.set_cons_zero, List.set_cons_succ]
                    refine take_on (i := 24) (v := ?v129) rfl (by kernel_rfl) (by kernel_rfl) (by kernel_rfl) (fun _ _ _ h => h) (by rfl) (by assumption) ?y129 ?_
                    case y129 => (intro w hSw; (try dsimp only at hSw); go_simp; (try with_reducible rfl))
                    try simp only [Act.put, List.setIfInBounds_toArray, List.set_cons_zero, List.set_cons_succ]
                    refine take_on (i := 25) (v := ?v130) rfl (by kernel_rfl) (by kernel_rfl) (by kernel_rfl) (fun _ _ _ h => h) (by rfl) (by assumption) ?y130 ?_
                    case y130 => (intro w hSw; (try dsimp only at hSw); go_simp; (try with_reducible rfl))
                    try simp only [Act.put, List.setIfInBounds_toArray, List.set_cons_zero, List.set_cons_succ]
                    refine wpAnyH_done (by kernel_rfl) ?_ _
                    go_wp2
                    go_roundw
                    case rel => exact ⟨k + 1, by omega, by go_num, good_next HG.out HB.out, haf.trans (AL.trans hHeld.1)⟩
                    case measure => simp [intOf]; omega
              · rw [hq] at HN HGo
                have HB := Lib.hid (show chk us = false from chk_false hkl (by rw [HGo.out]; rfl))
                clear hq HGo hkl hx
                go_wp2
                refine wp_region_held_drew (S := fun w' => Aft (wr.alloc (.cells #[.string x.1, .int .i64 x.2] 44)) w' ∧ w'.cell? ⟨wr.heap.size, 0, none⟩ = some (.string x.1) ∧ w'.cell? ⟨wr.heap.size, 1, none⟩ = some (.int .i64 x.2)) (by kernel_rfl) (⟨Below.drew (Aft.refl _), t0, t1⟩) (fun hHeld => ?_)
                refine take_on (i := 0) (v := ?v27) rfl (by kernel_rfl) (by kernel_rfl) (by kernel_rfl) (fun _ _ _ h => h) (by rfl) (by assumption) ?y27 ?_
                case y27 => (intro w hSw; (try dsimp only at hSw); go_simp; (try with_reducible rfl))
                try simp only [Act.put, List.setIfInBounds_toArray, List.set_cons_zero, List.set_cons_succ]
                refine take_on (i := 1) (v := ?v28) rfl (by kernel_rfl) (by kernel_rfl) (by kernel_rfl) (fun _ _ _ h => h) (by rfl) (by assumption) ?y28 ?_
                case y28 => (intro w hSw; (try dsimp only at hSw); go_simp; (try with_reducible rfl))
                try simp only [Act.put, List.setIfInBounds_toArray, List.set_cons_zero, List.set_cons_succ]
                refine take_on (i := 2) (v := ?v29) rfl (by kernel_rfl) (by kernel_rfl) (by kernel_rfl) (fun _ _ _ h => h) (by rfl) (by assumption) ?y29 ?_
                case y29 => (intro w hSw; (try dsimp only at hSw); go_simp; (try with_reducible rfl))
                try simp only [Act.put, List.setIfInBounds_toArray, List.set_cons_zero, List.set_cons_succ]
                refine take_on (i := 3) (v := ?v30) rfl (by kernel_rfl) (by kernel_rfl) (by kernel_rfl) (fun _ _ _ h => h) (by rfl) (by assumption) ?y30 ?_
                case y30 => (intro w hSw; (try dsimp only at hSw); go_simp; (try with_reducible rfl))
                try simp only [Act.put, List.setIfInBounds_toArray, List.set_cons_zero, List.set_cons_succ]
                refine take_on (i := 4) (v := ?v31) rfl (by kernel_rfl) (by kernel_rfl) (by kernel_rfl) (fun _ _ _ h => h) (by rfl) (by assumption) ?y31 ?_
                case y31 => (intro w hSw; (try dsimp only at hSw); go_simp; (try with_reducible rfl))
                try simp only [Act.put, List.setIfInBounds_toArray, List.set_cons_zero, List.set_cons_succ]
                refine take_on (i := 5) (v := ?v32) rfl (by kernel_rfl) (by kernel_rfl) (by kernel_rfl) (fun _ _ _ h => h) (by rfl) (by assumption) ?y32 ?_
                case y32 => (intro w hSw; (try dsimp only at hSw); go_simp; (try with_reducible rfl))
                try simp only [Act.put, List.setIfInBounds_toArray, List.set_cons_zero, List.set_cons_succ]
                refine take_on (i := 6) (v := ?v33) rfl (by kernel_rfl) (by kernel_rfl) (by kernel_rfl) (fun _ _ _ h => h) (by rfl) (by assumption) ?y33 ?_
                case y33 => (intro w hSw; (try dsimp only at hSw); go_simp; (try with_reducible rfl))
                try simp only [Act.put, List.setIfInBounds_toArray, List.set_cons_zero, List.set_cons_succ]
                refine take_on (i := 7) (v := ?v34) rfl (by kernel_rfl) (by kernel_rfl) (by kernel_rfl) (fun _ _ _ h => h) (by rfl) (by assumption) ?y34 ?_
                case y34 => (intro w hSw; (try dsimp only at hSw); go_simp; (try with_reducible rfl))
                try simp only [Act.put, List.setIfInBounds_toArray, List.set_cons_zero, List.set_cons_succ]
                refine one_ready (i := 8) rfl (by kernel_rfl) (by rfl) (fun K hK => ?_)
                go_simp
                go_at_call 41
                refine (HN.out _ (by first | assumption | exact hHeld.1 | exact Below.drew hHeld.1)).mono ?_
                rintro e' w' ⟨rfl, N9⟩
                have hh : (fun w' => Aft (wr.alloc (.cells #[.string x.1, .int .i64 x.2] 44)) w' ∧ w'.cell? ⟨wr.heap.size, 0, none⟩ = some (.string x.1) ∧ w'.cell? ⟨wr.heap.size, 1, none⟩ = some (.int .i64 x.2)) w' := ⟨Aft.trans (by first | exact hHeld.1 | exact Below.drew hHeld.1) N9, N9.cell (by first | exact hHeld.2.1 | exact Aft.cell (Below.drew (Aft.refl _)) hHeld.2.1), N9.cell (by first | exact hHeld.2.2 | exact Aft.cell (Below.drew (Aft.refl _)) hHeld.2.2)⟩
                clear N9
                try go_simp
                refine hK.out _ _ (by first | exact hh | exact ⟨Below.drew hh.1, hh.2⟩) (fun hHeld => ?_)
                clear hK K
                try simp only [Act.put, List.setIfInBounds_toArray, List.set_cons_zero, List.set_cons_succ]
                refine take_on (i := 9) (v := ?v36) rfl (by kernel_rfl) (by kernel_rfl) (by kernel_rfl) (fun _ _ _ h => h) (by rfl) (by assumption) ?y36 ?_
                case y36 => (intro w hSw; (try dsimp only at hSw); go_simp; (try with_reducible rfl))
                try simp only [Act.put, List.setIfInBounds_toArray, List.set_cons_zero, List.set_cons_succ]
                refine take_on (i := 10) (v := ?v37) rfl (by kernel_rfl) (by kernel_rfl) (by kernel_rfl) (fun _ _ _ h => h) (by rfl) (by assumption) ?y37 ?_
                case y37 => (intro w hSw; (try dsimp only at hSw); go_simp; (try with_reducible rfl))
                try simp only [Act.put, List.setIfInBounds_toArray, List.set_cons_zero, List.set_cons_succ]
                refine take_off (i := 11) rfl (by kernel_rfl) (by kernel_rfl) (by kernel_rfl) (fun _ _ _ h => h) (by rfl) (by assumption) ?_
                try simp only [Act.put, List.setIfInBounds_toArray, List.set_cons_zero, List.set_cons_succ]
                refine take_off (i := 12) rfl (by kernel_rfl) (by kernel_rfl) (by kernel_rfl) (fun _ _ _ h => h) (by rfl) (by assumption) ?_
                try simp only [Act.put, List.setIfInBounds_toArray, List.set_cons_zero, List.set_cons_succ]
                refine take_off (i := 13) rfl (by kernel_rfl) (by kernel_rfl) (by kernel_rfl) (fun _ _ _ h => h) (by rfl) (by assumption) ?_
                try simp only [Act.put, List.setIfInBounds_toArray, List.set_cons_zero, List.set_cons_succ]
                refine take_off (i := 14) rfl (by kernel_rfl) (by kernel_rfl) (by kernel_rfl) (fun _ _ _ h => h) (by rfl) (by assumption) ?_
                try simp only [Act.put, List.setIfInBounds_toArray, List.set_cons_zero, List.set_cons_succ]
                refine take_off (i := 15) rfl (by kernel_rfl) (by kernel_rfl) (by kernel_rfl) (fun _ _ _ h => h) (by rfl) (by assumption) ?_
                try simp only [Act.put, List.setIfInBounds_toArray, List.set_cons_zero, List.set_cons_succ]
                refine take_off (i := 16) rfl (by kernel_rfl) (by kernel_rfl) (by kernel_rfl) (fun _ _ _ h => h) (by rfl) (by assumption) ?_
                try simp only [Act.put, List.setIfInBounds_toArray, List.set_cons_zero, List.set_cons_succ]
                refine take_off (i := 17) rfl (by kernel_rfl) (by kernel_rfl) (by kernel_rfl) (fun _ _ _ h => h) (by rfl) (by assumption) ?_
                try simp only [Act.put, List.setIfInBounds_toArray, List.set_cons_zero, List.set_cons_succ]
                refine take_off (i := 18) rfl (by kernel_rfl) (by kernel_rfl) (by kernel_rfl) (fun _ _ _ h => h) (by rfl) (by assumption) ?_
                try simp only [Act.put, List.setIfInBounds_toArray, List.set_cons_zero, List.set_cons_succ]
                refine take_off (i := 19) rfl (by kernel_rfl) (by kernel_rfl) (by kernel_rfl) (fun _ _ _ h => h) (by rfl) (by assumption) ?_
                try simp only [Act.put, List.setIfInBounds_toArray, List.set_cons_zero, List.set_cons_succ]
                refine take_off (i := 20) rfl (by kernel_rfl) (by kernel_rfl) (by kernel_rfl) (fun _ _ _ h => h) (by rfl) (by assumption) ?_
                try simp only [Act.put, List.setIfInBounds_toArray, List.set_cons_zero, List.set_cons_succ]
                refine take_off (i := 21) rfl (by kernel_rfl) (by kernel_rfl) (by kernel_rfl) (fun _ _ _ h => h) (by rfl) (by assumption) ?_
                try simp only [Act.put, List.setIfInBounds_toArray, List.set_cons_zero, List.set_cons_succ]
                refine take_off (i := 22) rfl (by kernel_rfl) (by kernel_rfl) (by kernel_rfl) (fun _ _ _ h => h) (by rfl) (by assumption) ?_
                try simp only [Act.put, List.setIfInBounds_toArray, List.set_cons_zero, List.set_cons_succ]
                refine take_off (i := 23) rfl (by kernel_rfl) (by kernel_rfl) (by kernel_rfl) (fun _ _ _ h => h) (by rfl) (by assumption) ?_
                try simp only [Act.put, List.setIfInBounds_toArray, List.set_cons_zero, List.set_cons_succ]
                refine take_off (i := 24) rfl (by kernel_rfl) (by kernel_rfl) (by kernel_rfl) (fun _ _ _ h => h) (by rfl) (by assumption) ?_
                try simp only [Act.put, List.setIfInBounds_toArray, List.set_cons_zero, List.set_cons_succ]
                refine take_on (i := 25) (v := ?v52) rfl (by kernel_rfl) (by kernel_rfl) (by kernel_rfl) (fun _ _ _ h => h) (by rfl) (by assumption) ?y52 ?_
                case y52 => (intro w hSw; (try dsimp only at hSw); go_simp; (try with_reducible rfl))
                try simp only [Act.put, List.setIfInBounds_toArray, List.set_cons_zero, List.set_cons_succ]
                refine wpAnyH_done (by kernel_rfl) ?_ _
                go_wp2
                go_ret
                exact ⟨by first | (rw [HB.out]; done) | (rw [HB.out]; rfl) | (rw [HB.out]; simp), haf.trans (AL.trans hHeld.1)⟩
          · obtain rfl : k = n := by omega
            have HB := Lib.hid (show chk us = true from chk_true (by rw [HL.out]; omega) (by rw [HL.out]; exact h8) H0.out (by rw [HL.out]; exact HG.out))
            go_wp2
            go_ret
            exact ⟨by first | (rw [HB.out]; done) | (rw [HB.out]; rfl) | (rw [HB.out]; simp), haf⟩
      · have HV := Lib.hid (show chk us = false by unfold chk; rw [hu0, decide_eq_false hs]; simp)
        have hsb : (u.2 != 1) = true := by simp [hs]
        clear hlen hu0 hu ha hs
        go_enter Try.func30, Try.ntmps30
        go_wp2
        go_ret
        exact ⟨by first | (rw [HV.out]; done) | (rw [HV.out]; rfl) | (rw [HV.out]; simp), Aft.refl _⟩
    · have HV := Lib.hid (show chk us = false by unfold chk; rw [hlen, decide_eq_false h8]; simp)
      have hn1 : ¬ (n : Int) = 0 := by omega
      have hn8 : (8 : Int) < (n : Int) := by omega
      clear hlen ha
      go_enter Try.func30, Try.ntmps30
      go_wp2
      go_ret
      exact ⟨by first | (rw [HV.out]; done) | (rw [HV.out]; rfl) | (rw [HV.out]; simp), Aft.refl _⟩

theorem check_any (A : Option Addr) (n c : Nat) (us : List Un) (w : World) (ha : Ul w A n c us) :
    Calls Try.prog 16 #[.slice A n c] w (BoolPost w (chk us)) := by
  have H1 := Lib.hid (isValid_any A n c us w ha)
  clear ha
  go_enter Try.func16, Try.ntmps16
  go_wp2_with fail
  refine H1.out.mono ?_
  rintro e w1 ⟨rfl, N1⟩
  clear H1
  go_wp2
  go_ret
  exact ⟨rfl, N1⟩

theorem neg_any (z : Int) (w : World) : Calls Try.prog 43 #[.int .i64 z] w (SamePost w (decide (z < 0))) := by
  by_cases h : z < 0
  · go_enter Try.func43, Try.ntmps43
    go_wp2
    go_ret
    exact ⟨by simp [h], rfl⟩
  · go_enter Try.func43, Try.ntmps43
    go_wp2
    go_ret
    exact ⟨by simp; omega, rfl⟩
theorem enterNeg (args : Array Value) (w : World) : (callFunc 43 args).run Try.prog w = .ok (.enter 43 args) w := by go_simp

set_option maxRecDepth 100000 in
set_option maxHeartbeats 1600000 in
theorem indexNeg_any (A : Option Addr) (n c : Nat) (ps : List Int) (w : World) (ha : Rw vI w A n c ps) :
    Calls Try.prog 48 #[.slice A n c, .func (.func 43) #[] #[]] w (fun e w' => ∃ z : Int, e = .returned (.int .i64 z) ∧ decide (0 ≤ z) = ps.any (fun p => decide (p < 0)) ∧ w = w') := by
  have hcf := enterNeg
  have hac := ha.le
  have hcm := ha.cmax
  have hla := Lib.hid ha.len
  go_enter Try.func48, Try.ntmps48
  go_wp2
  go_loopw [8] (fun i wr => ∃ j : Nat, j ≤ n ∧ i = .int .i64 (j : Nat) ∧ ps.any (fun p => decide (p < 0)) = (ps.drop j).any (fun p => decide (p < 0)) ∧ w = wr) (fun i _ => n - (intOf i).toNat)
  case atStart => exact ⟨0, Nat.zero_le _, rfl, rfl, rfl⟩
  case round =>
    obtain ⟨j, hj, rfl, he, rfl⟩ := hrel
    have HE := Lib.hid he
    clear he
    by_cases hlt : j < n
    · obtain ⟨b, off, x, rfl, hx, g1⟩ := ha.at_ hlt
      dsimp only [vI] at g1
      have HS := Lib.hid (drop_of_get hx)
      have hji : (j : Int) < (n : Int) := by omega
      have hcall := neg_any x w
      clear hx
      generalize hh : decide (x < 0) = q at hcall
      have HQ := Lib.hid hh
      have HC := Lib.hid hcall
      clear hh hcall
      cases q
      · go_wp2_with fail
        refine HC.out.mono ?_
        rintro e w1 ⟨rfl, rfl⟩
        go_wp2
        go_roundw
        case rel => exact ⟨j + 1, by omega, by go_num, by rw [HE.out, HS.out, List.any_cons, HQ.out]; rfl, trivial⟩
        case measure => simp [intOf]; omega
      · go_wp2_with fail
        refine HC.out.mono ?_
        rintro e w1 ⟨rfl, rfl⟩
        go_wp2
        go_ret
        exact ⟨(j : Int), rfl, by rw [HE.out, HS.out, List.any_cons, HQ.out]; simp, rfl⟩
    · obtain rfl : j = n := by omega
      go_wp2
      go_ret
      exact ⟨-1, rfl, by rw [HE.out, List.drop_of_length_le (by rw [hla.out]; exact Nat.le_refl _)]; rfl, rfl⟩

theorem containsNeg_any (A : Option Addr) (n c : Nat) (ps : List Int) (w : World) (ha : Rw vI w A n c ps) :
    Calls Try.prog 44 #[.slice A n c, .func (.func 43) #[] #[]] w (SamePost w (ps.any (fun p => decide (p < 0)))) := by
  have H1 := Lib.hid (indexNeg_any A n c ps w ha)
  clear ha
  go_enter Try.func44, Try.ntmps44
  go_wp2_with fail
  refine H1.out.mono ?_
  rintro e w1 ⟨z, rfl, hz, rfl⟩
  clear H1
  by_cases h0 : 0 ≤ z
  · rw [decide_eq_true h0] at hz
    have HZ := Lib.hid hz
    clear hz
    go_wp2
    go_ret
    exact ⟨by rw [← HZ.out]; rfl, rfl⟩
  · rw [decide_eq_false h0] at hz
    have HZ := Lib.hid hz
    clear hz
    go_wp2
    go_ret
    exact ⟨by rw [← HZ.out]; simp; omega, rfl⟩

/-- Is there one part for each unit, and none negative? -/
def forB (n m : Nat) (ps : List Int) : Bool := decide (m = n) && !(ps.any (fun p => decide (p < 0)))
set_option maxHeartbeats 800000 in
theorem areFor_any (B : Option Addr) (m d : Nat) (ps : List Int) (A : Option Addr) (n c : Nat) (w : World) (hb : Rw vI w B m d ps) (hn : n ≤ 9223372036854775807) :
    Calls Try.prog 31 #[.slice B m d, .slice A n c] w (SamePost w (forB n m ps)) := by
  have hle := hb.le
  have hcm := hb.cmax
  have H1 := Lib.hid (containsNeg_any B m d ps w hb)
  clear hb
  by_cases h : m = n
  · subst h
    have HV := Lib.hid (show forB m m ps = !(ps.any (fun p => decide (p < 0))) by unfold forB; simp)
    generalize ps.any (fun p => decide (p < 0)) = q at *
    go_enter Try.func31, Try.ntmps31
    go_wp2_with fail
    refine H1.out.mono ?_
    rintro e w1 ⟨rfl, rfl⟩
    clear H1
    go_wp2
    go_ret
    exact ⟨by first | (rw [HV.out]; done) | (rw [HV.out]; rfl) | (rw [HV.out]; simp), rfl⟩
  · have HV := Lib.hid (show forB n m ps = false by unfold forB; simp [h])
    have hnm : ¬ (m : Int) = (n : Int) := by omega
    clear H1 h
    go_enter Try.func31, Try.ntmps31
    go_wp2
    go_ret
    exact ⟨by first | (rw [HV.out]; done) | (rw [HV.out]; rfl) | (rw [HV.out]; simp), rfl⟩
theorem arg_eq {us : List Un} {ps : List Int} {n m : Nat} (h1 : us.length = n) (h2 : ps.length = m) : arg us ps = (chk us && forB n m ps) := by
  unfold arg forB
  rw [h1, h2, Bool.and_assoc]
end Go.Proofs.Yteknfigpjhngfaa
