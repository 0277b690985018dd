/-
  awake returns true; great. Conditions: the slice holds the units.
-/
import Derived.Test.YteknfigpjhngfaaMeasRef2
namespace Go.Proofs.Yteknfigpjhngfaa
open Go.RowKit
open MeasPlain

def exU : List Un := [(⟨#[109, 105, 110, 117, 116, 101]⟩, 1), (⟨#[104, 111, 117, 114]⟩, 60), (⟨#[100, 97, 121]⟩, 1440)]
theorem exU_ul (w : World) : Ul (w.alloc (.cells #[.string ⟨#[109, 105, 110, 117, 116, 101]⟩, .int .i64 1, .string ⟨#[104, 111, 117, 114]⟩, .int .i64 60, .string ⟨#[100, 97, 121]⟩, .int .i64 1440] 44)) (some ⟨w.heap.size, 0, none⟩) 3 3 exU :=
  ⟨rfl, Nat.le_refl _, by omega, by omega, fun e => (by cases e), fun i l hi => by
    refine ⟨w.heap.size, 0, rfl, ?_⟩
    match i, hi with
    | 0, hi => simp [exU] at hi; subst hi; constructor <;> simp
    | 1, hi => simp [exU] at hi; subst hi; constructor <;> simp
    | 2, hi => simp [exU] at hi; subst hi; constructor <;> simp
    | i + 3, hi => simp [exU] at hi, fun l hl => by
    simp [exU] at hl
    rcases hl with rfl | rfl | rfl <;> exact ⟨by decide, by decide⟩⟩
theorem ex1 : splitV exU 1505 = ([5, 1, 1], 0) := by kernel_rfl
theorem ex2 : joinV exU [65, 0, 1] = (1505, 0) := by kernel_rfl
theorem ex3 : addV exU [59, 23, 0] [1, 0, 0] = ([0, 0, 1], 0) := by kernel_rfl
theorem ex4 : bothV exU [59, 0, 0] [0, 1, 0] = (59, 60, 0) := by kernel_rfl
theorem ex4c : cmpI 59 60 = -1 := by kernel_rfl
theorem ex5 : splitV exU (-1) = ([], 1) := by kernel_rfl
theorem ex6 : chk exU = true := by kernel_rfl
theorem ex7 : normB exU [65, 0, 1] = false := by kernel_rfl
theorem ex8 : normB exU [5, 1, 1] = true := by kernel_rfl

set_option maxRecDepth 100000 in
set_option maxHeartbeats 1600000 in
theorem awake_any (w : World) : Calls Try.prog 12 #[] w (BoolPost w true) := by
  have ha := exU_ul w
  have A0 : Aft w (w.alloc (.cells #[.string ⟨#[109, 105, 110, 117, 116, 101]⟩, .int .i64 1, .string ⟨#[104, 111, 117, 114]⟩, .int .i64 60, .string ⟨#[100, 97, 121]⟩, .int .i64 1440] 44)) := (Aft.refl w).alloc _
  go_enter Try.func12, Try.ntmps12
  go_wp2_with fail
  generalize w.alloc (.cells #[.string ⟨#[109, 105, 110, 117, 116, 101]⟩, .int .i64 1, .string ⟨#[104, 111, 117, 114]⟩, .int .i64 60, .string ⟨#[100, 97, 121]⟩, .int .i64 1440] 44) = w0 at *
  have HA := Lib.hid ha
  clear ha
  generalize w.heap.size = H at *
  have h1 := split_any _ 3 3 exU 1505 w0 HA.out
  rw [ex1] at h1
  refine h1.mono ?_
  rintro e w1 ⟨⟨X1, n1, c1, rfl, r1⟩, N1⟩
  have R1 := Lib.hid r1
  clear h1 r1
  have A1 := A0.trans N1
  go_wp2_with fail
  have B1 : Aft w1 (w1.alloc (.cells #[.int .i64 65, .int .i64 0, .int .i64 1] 3)) := (Aft.refl w1).alloc _
  have h1 := join_any _ 3 3 exU _ 3 3 [65, 0, 1] _ (HA.out.aft (N1.trans B1)) (lit_rw (enc := vI) w1 3 [65, 0, 1] (by simp))
  rw [ex2] at h1
  refine h1.mono ?_
  rintro e w2 ⟨rfl, N2⟩
  clear h1
  have C2 := N1.trans (B1.trans N2)
  have D2 := B1.trans N2
  clear B1 N2
  go_wp2_with fail
  have B1 : Aft w2 (w2.alloc (.cells #[.int .i64 59, .int .i64 23, .int .i64 0] 3)) := (Aft.refl w2).alloc _
  have B2 : Aft (w2.alloc (.cells #[.int .i64 59, .int .i64 23, .int .i64 0] 3)) ((w2.alloc (.cells #[.int .i64 59, .int .i64 23, .int .i64 0] 3)).alloc (.cells #[.int .i64 1, .int .i64 0, .int .i64 0] 3)) := (Aft.refl _).alloc _
  have l1 := (lit_rw (enc := vI) w2 3 [59, 23, 0] (by simp)).aft B2
  have l2 := lit_rw (enc := vI) (w2.alloc (.cells #[.int .i64 59, .int .i64 23, .int .i64 0] 3)) 3 [1, 0, 0] (by simp)
  rw [World.size_alloc] at l2
  have h1 := add_any _ 3 3 exU _ 3 3 [59, 23, 0] _ 3 3 [1, 0, 0] _ (HA.out.aft (C2.trans (B1.trans B2))) l1 l2
  rw [ex3] at h1
  refine h1.mono ?_
  rintro e w3 ⟨⟨X3, n3, c3, rfl, r3⟩, N3⟩
  have R3 := Lib.hid r3
  clear h1 r3 l1 l2
  have C3 := C2.trans ((B1.trans B2).trans N3)
  have D3 := D2.trans ((B1.trans B2).trans N3)
  clear B1 B2 N3
  go_wp2_with fail
  have B1 : Aft w3 (w3.alloc (.cells #[.int .i64 59, .int .i64 0, .int .i64 0] 3)) := (Aft.refl w3).alloc _
  have B2 : Aft (w3.alloc (.cells #[.int .i64 59, .int .i64 0, .int .i64 0] 3)) ((w3.alloc (.cells #[.int .i64 59, .int .i64 0, .int .i64 0] 3)).alloc (.cells #[.int .i64 0, .int .i64 1, .int .i64 0] 3)) := (Aft.refl _).alloc _
  have l1 := (lit_rw (enc := vI) w3 3 [59, 0, 0] (by simp)).aft B2
  have l2 := lit_rw (enc := vI) (w3.alloc (.cells #[.int .i64 59, .int .i64 0, .int .i64 0] 3)) 3 [0, 1, 0] (by simp)
  rw [World.size_alloc] at l2
  have h1 := compare_any _ 3 3 exU _ 3 3 [59, 0, 0] _ 3 3 [0, 1, 0] _ (HA.out.aft (C3.trans (B1.trans B2))) l1 l2
  rw [ex4, ex4c] at h1
  refine h1.mono ?_
  rintro e w4 ⟨rfl, N4⟩
  clear h1 l1 l2
  have C4 := C3.trans ((B1.trans B2).trans N4)
  have D4 := D3.trans ((B1.trans B2).trans N4)
  have E4 := (B1.trans B2).trans N4
  clear B1 B2 N4
  go_wp2_with fail
  have h1 := split_any _ 3 3 exU (-1) w4 (HA.out.aft C4)
  rw [ex5] at h1
  refine h1.mono ?_
  rintro e w5 ⟨⟨X5, n5, c5, rfl, r5⟩, N5⟩
  clear h1 r5
  have C5 := C4.trans N5
  have D5 := D4.trans N5
  have E5 := E4.trans N5
  go_wp2_with fail
  have B1 : Aft w5 (w5.alloc (.cells #[.int .i64 5, .int .i64 1, .int .i64 1] 3)) := (Aft.refl w5).alloc _
  have h1 := same_any X1 n1 c1 [5, 1, 1] _ 3 3 [5, 1, 1] _ (R1.out.aft (D5.trans B1)) (lit_rw (enc := vI) w5 3 [5, 1, 1] (by simp))
  rw [decide_eq_true rfl] at h1
  refine h1.mono ?_
  rintro e w6 ⟨rfl, N6⟩
  clear h1
  have F6 := B1.trans N6
  clear B1 N6
  go_wp2_with fail
  have B1 : Aft w6 (w6.alloc (.cells #[.int .i64 0, .int .i64 0, .int .i64 1] 3)) := (Aft.refl w6).alloc _
  have h1 := same_any X3 n3 c3 [0, 0, 1] _ 3 3 [0, 0, 1] _ (R3.out.aft (E5.trans (F6.trans B1))) (lit_rw (enc := vI) w6 3 [0, 0, 1] (by simp))
  rw [decide_eq_true rfl] at h1
  refine h1.mono ?_
  rintro e w7 ⟨rfl, N7⟩
  clear h1
  have F7 := F6.trans (B1.trans N7)
  clear B1 N7
  go_wp2_with fail
  have h1 := check_any _ 3 3 exU w7 (HA.out.aft (C5.trans F7))
  rw [ex6] at h1
  refine h1.mono ?_
  rintro e w8 ⟨rfl, N8⟩
  clear h1
  have F8 := F7.trans N8
  go_wp2_with fail
  have B1 : Aft w8 (w8.alloc (.cells #[.int .i64 65, .int .i64 0, .int .i64 1] 3)) := (Aft.refl w8).alloc _
  have h1 := normal_any _ 3 3 exU _ 3 3 [65, 0, 1] _ (HA.out.aft (C5.trans (F8.trans B1))) (lit_rw (enc := vI) w8 3 [65, 0, 1] (by simp))
  rw [ex7] at h1
  refine h1.mono ?_
  rintro e w9 ⟨rfl, N9⟩
  clear h1
  have F9 := F8.trans (B1.trans N9)
  clear B1 N9
  go_wp2_with fail
  have h1 := normal_any _ 3 3 exU X1 n1 c1 [5, 1, 1] w9 (HA.out.aft (C5.trans F9)) (R1.out.aft (D5.trans F9))
  rw [ex8] at h1
  refine h1.mono ?_
  rintro e w10 ⟨rfl, N10⟩
  clear h1
  go_wp2
  go_ret
  exact ⟨by first | rfl | simp, (A0.trans C5).trans (F9.trans N10)⟩

/-- Are the lists longer than the statements consider? -/
def greatB (n m : Nat) (us : List Un) : Bool := decide (12 < n) || decide (12 < m) || us.any (fun u => decide (100 < u.1.size))
theorem great_facts {n m : Nat} {us : List Un} (h : greatB n m us = false) : n ≤ 12 ∧ m ≤ 12 := by
  unfold greatB at h
  simp only [Bool.or_eq_false_iff, decide_eq_false_iff_not] at h
  omega
set_option maxHeartbeats 1600000 in
theorem great_any (A : Option Addr) (n c : Nat) (us : List Un) (B : Option Addr) (m d : Nat) (w : World) (ha : Ul w A n c us) (hm : m ≤ 9223372036854775807) :
    Calls Try.prog 13 #[.slice A n c, .slice B m d] w (BoolPost w (greatB n m us)) := by
  have hac := ha.le
  have hcm := ha.cmax
  have hmx := ha.max
  have HL := Lib.hid ha.len
  by_cases h1 : 12 < n
  · have HV := Lib.hid (show greatB n m us = true by unfold greatB; rw [decide_eq_true h1]; rfl)
    have h1' : (12 : Int) < (n : Int) := by omega
    clear ha
    go_enter Try.func13, Try.ntmps13
    go_wp2
    go_ret
    exact ⟨by rw [HV.out]; rfl, Aft.refl _⟩
  · have h1' : ¬ (12 : Int) < (n : Int) := by omega
    by_cases h2 : 12 < m
    · have HV := Lib.hid (show greatB n m us = true by unfold greatB; rw [decide_eq_true h2, Bool.or_true]; rfl)
      have h2' : (12 : Int) < (m : Int) := by omega
      clear ha
      go_enter Try.func13, Try.ntmps13
      go_wp2
      go_ret
      exact ⟨by rw [HV.out]; rfl, Aft.refl _⟩
    · have h2' : ¬ (12 : Int) < (m : Int) := by omega
      have HV := Lib.hid (show greatB n m us = us.any (fun u => decide (100 < u.1.size)) by unfold greatB; rw [decide_eq_false h1, decide_eq_false h2]; rfl)
      go_enter Try.func13, Try.ntmps13
      go_wp2
      go_loopw [17] (fun i wr => ∃ k : Nat, k ≤ n ∧ i = .int .i64 (k : Nat) ∧ us.any (fun u => decide (100 < u.1.size)) = (us.drop k).any (fun u => decide (100 < u.1.size)) ∧ Aft w wr) (fun i _ => n - (intOf i).toNat)
      case atStart => exact ⟨0, Nat.zero_le _, rfl, rfl, Aft.refl _⟩
      case round =>
        obtain ⟨k, hk, rfl, he, haf⟩ := hrel
        have HE := Lib.hid he
        clear he
        by_cases hlt : k < n
        · obtain ⟨b, off, u, rfl, hu, d1, d2⟩ := ha.at_ hlt
          have c1 := haf.cell d1
          have c2 := haf.cell d2
          have hsz := (ha.wf u (List.mem_of_getElem? hu)).1
          unfold maxLen at hsz
          have HD := Lib.hid (drop_of_get hu)
          have hki : (k : Int) < (n : Int) := by omega
          have AL : Aft wr (wr.alloc (.cells #[.string u.1, .int .i64 u.2] 44)) := (Aft.refl wr).alloc _
          obtain ⟨t0, t1⟩ := two_cells wr (.string u.1) (.int .i64 u.2) 44
          clear hu d1 d2
          by_cases hs : 100 < u.1.size
          · have hs' : (100 : Int) < (u.1.size : Int) := by omega
            have HB := Lib.hid (show (us.drop k).any (fun u => decide (100 < u.1.size)) = true by rw [HD.out, List.any_cons, decide_eq_true hs]; rfl)
            go_wp2
            go_ret
            exact ⟨by rw [HV.out, HE.out, HB.out]; rfl, haf.trans AL⟩
          · have hs' : ¬ (100 : Int) < (u.1.size : Int) := by omega
            have HB := Lib.hid (show (us.drop k).any (fun u => decide (100 < u.1.size)) = (us.drop (k + 1)).any (fun u => decide (100 < u.1.size)) by rw [HD.out, List.any_cons, decide_eq_false hs]; rfl)
            go_wp2
            go_roundw
            case rel => exact ⟨k + 1, by omega, by go_num, by rw [HE.out, HB.out], haf.trans AL⟩
            case measure => simp [intOf]; omega
        · obtain rfl : k = n := by omega
          have HB := Lib.hid (show (us.drop k).any (fun u => decide (100 < u.1.size)) = false by rw [List.drop_of_length_le (by rw [HL.out]; exact Nat.le_refl _)]; rfl)
          go_wp2
          go_ret
          exact ⟨by rw [HV.out, HE.out, HB.out]; rfl, haf⟩
theorem ul_nil (w : World) : Ul w none 0 0 [] := ⟨rfl, Nat.le_refl _, by omega, by omega, fun _ => rfl, fun i u h => by simp at h, fun u h => by cases h⟩
end Go.Proofs.Yteknfigpjhngfaa
