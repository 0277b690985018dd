/-
  For every three records, Compare returns the specified order; it is 0 exactly for equal records, antisymmetric and transitive: the law FeatureCompares returns true. Conditions: none (every three lists of features, of any size that an argument can have).
-/
import Derived.Test.YthmehnigpnhnbabFeatAwake
import Derived.Test.YthmehnigpnhnbabFeatFrame
import Derived.Test.YthmehnigpnhnbabFeatRefCompare
import Derived.Test.YthmehnigpnhnbabRows
namespace Go.Proofs.Ythmehnigpnhnbab.lawCompares
open Go.ChangeShapes Go.WideShapes Go.ChangeAt Go.RowKit
open FeatPlain

/-- A comparison's number. -/
def Sig (x : Int) : Prop := x = -1 ∨ x = 0 ∨ x = 1
/-- How the numbers of a to b, b to c and a to c go together. -/
def Tri (x y z : Int) : Prop := (x = 0 → z = y) ∧ (y = 0 → z = x) ∧ (x < 0 → y < 0 → z < 0)

theorem sig_or {x y : Int} (h : Sig x) (k : Sig y) : Sig (orI x y) := by unfold orI; split <;> assumption
theorem tri_or {x y z x' y' z' : Int} (h : Tri x y z) (k : Tri x' y' z') : Tri (orI x x') (orI y y') (orI z z') := by
  obtain ⟨h1, h2, h3⟩ := h
  obtain ⟨k1, k2, k3⟩ := k
  unfold orI
  by_cases x0 : x = 0
  · have hz := h1 x0
    rw [if_pos x0]
    by_cases y0 : y = 0
    · rw [if_pos y0, if_pos (by omega)]
      exact ⟨k1, k2, k3⟩
    · rw [if_neg y0, if_neg (by omega)]
      exact ⟨fun _ => hz, fun e => absurd e y0, fun _ e => by omega⟩
  · rw [if_neg x0]
    by_cases y0 : y = 0
    · have hz := h2 y0
      rw [if_pos y0, if_neg (by omega)]
      exact ⟨fun e => absurd e x0, fun _ => hz, fun e _ => by omega⟩
    · rw [if_neg y0]
      refine ⟨fun e => absurd e x0, fun e => absurd e y0, fun a b => ?_⟩
      have := h3 a b
      rw [if_neg (by omega)]; exact this

theorem sigS (a b : ByteArray) : Sig (cmpS a b) := by unfold cmpS Sig; split <;> (try split) <;> simp
theorem negS (a b : ByteArray) : cmpS b a = - cmpS a b := by
  cases h : lt a b
  · cases k : lt b a
    · have := lt_total h k; subst this; rw [cmpS_refl]; rfl
    · rw [cmpS_less k, cmpS_more k]; try rfl
  · rw [cmpS_less h, cmpS_more h]; try rfl
theorem less_of {a b : ByteArray} (h : cmpS a b < 0) : lt a b = true := by
  cases e : lt a b
  · unfold cmpS at h
    rw [if_neg (by simp [e])] at h
    split at h
    · omega
    · omega
  · rfl
theorem triS (a b c : ByteArray) : Tri (cmpS a b) (cmpS b c) (cmpS a c) := by
  refine ⟨fun h => ?_, fun h => ?_, fun h k => ?_⟩
  · rw [cmpS_zero.1 h]
  · rw [cmpS_zero.1 h]
  · rw [cmpS_less (lt_trans (less_of h) (less_of k))]; decide

theorem sigF (f g : Ft) : Sig (cmpF f g) := sig_or (sigS _ _) (sigS _ _)
theorem negF (f g : Ft) : cmpF g f = - cmpF f g := by
  unfold cmpF
  rw [negS f.1 g.1, negS f.2 g.2]
  unfold orI
  by_cases h : cmpS f.1 g.1 = 0
  · rw [if_pos h, if_pos (by omega)]
  · rw [if_neg h, if_neg (by omega)]
theorem triF (f g h : Ft) : Tri (cmpF f g) (cmpF g h) (cmpF f h) := tri_or (triS _ _ _) (triS _ _ _)
theorem zeroF {f g : Ft} : cmpF f g = 0 ↔ f = g := by
  constructor
  · intro h
    by_cases e1 : f.1 = g.1
    · by_cases e2 : f.2 = g.2
      · exact Prod.ext e1 e2
      · exact absurd h (cmpF_value e1 e2).2
    · exact absurd h (cmpF_name e1).2
  · rintro rfl; exact cmpF_same rfl rfl

theorem sigL : ∀ a b : List Ft, Sig (cmpL a b)
  | [], [] => .inr (.inl rfl)
  | [], _ :: _ => .inl rfl
  | _ :: _, [] => .inr (.inr rfl)
  | _ :: a, _ :: b => sig_or (sigF _ _) (sigL a b)
theorem negL : ∀ a b : List Ft, cmpL b a = - cmpL a b
  | [], [] => rfl
  | [], _ :: _ => rfl
  | _ :: _, [] => rfl
  | f :: a, g :: b => by
    show orI (cmpF g f) (cmpL b a) = - orI (cmpF f g) (cmpL a b)
    rw [negF f g, negL a b]
    unfold orI
    by_cases h : cmpF f g = 0
    · rw [if_pos h, if_pos (by omega)]
    · rw [if_neg h, if_neg (by omega)]
theorem zeroL : ∀ {a b : List Ft}, cmpL a b = 0 ↔ a = b
  | [], [] => by simp [cmpL]
  | [], _ :: _ => by simp [cmpL]
  | _ :: _, [] => by simp [cmpL]
  | f :: a, g :: b => by
    have ih := zeroL (a := a) (b := b)
    show orI (cmpF f g) (cmpL a b) = 0 ↔ _
    rw [List.cons.injEq, ← zeroF, ← ih]
    unfold orI
    by_cases h : cmpF f g = 0
    · rw [if_pos h]; simp [h]
    · rw [if_neg h]; simp [h]
theorem triL : ∀ a b c : List Ft, Tri (cmpL a b) (cmpL b c) (cmpL a c)
  | [], [], c => ⟨fun _ => rfl, fun h => by rw [zeroL.1 h], fun h => by simp [cmpL] at h⟩
  | [], _ :: _, [] => ⟨fun h => by simp [cmpL] at h, fun h => by simp [cmpL] at h, fun _ h => by simp [cmpL] at h⟩
  | [], _ :: _, _ :: _ => ⟨fun h => by simp [cmpL] at h, fun _ => rfl, fun _ _ => by simp [cmpL]⟩
  | _ :: _, [], c => ⟨fun h => by simp [cmpL] at h, fun h => by rw [zeroL.1 h], fun h => by simp [cmpL] at h⟩
  | _ :: _, _ :: _, [] => ⟨fun _ => rfl, fun h => by simp [cmpL] at h, fun _ h => by simp [cmpL] at h⟩
  | _ :: a, _ :: b, _ :: c => tri_or (triF _ _ _) (triL a b c)

set_option maxRecDepth 100000 in
set_option maxHeartbeats 6400000 in
theorem walk (A : Option Addr) (n c : Nat) (xs : List Ft) (B : Option Addr) (m d : Nat) (ys : List Ft) (C : Option Addr) (l e : Nat) (zs : List Ft) (w : World)
    (ha : Sl w A n c xs) (_ : Sized xs) (_ : c * 32 ≤ reachBytes) (hb : Sl w B m d ys) (_ : Sized ys) (_ : d * 32 ≤ reachBytes) (hc : Sl w C l e zs) (_ : Sized zs) (_ : e * 32 ≤ reachBytes) :
    Calls Try.prog 9 #[.slice A n c, .slice B m d, .slice C l e] w (BoolPost w true) := by
  by_cases ra : ascB xs = true
  · by_cases rb : ascB ys = true
    · by_cases rc : ascB zs = true
      · have hs1 := sigL xs ys
        have hs2 := sigL ys zs
        have hs3 := sigL xs zs
        have htr := triL xs ys zs
        have hng := negL xs ys
        have hze := zeroL (a := xs) (b := ys)
        unfold Sig at hs1 hs2 hs3
        unfold Tri at htr
        rcases hs1 with x1 | x1 | x1
        · rcases hs2 with y1 | y1 | y1
          · have X1 := Lib.hid x1
            have NG := Lib.hid (show cmpL ys xs = 1 by omega)
            have E1 := Lib.hid (show decide (xs = ys) = false by simp; intro h; have := hze.2 h; omega)
            have Y1 := Lib.hid y1
            have Z1 := Lib.hid (show cmpL xs zs = -1 by omega)
            clear x1 hs3 htr hng hze y1
            go_enter Try.func9, Try.ntmps9
            go_wp2_with fail
            have h1 := awake_any w
            refine h1.mono ?_
            rintro e w1 ⟨rfl, N1⟩
            clear h1
            have A1 := N1
            go_wp2_with fail
            have h1 := record_any A n c xs w1 (ha.aft A1)
            rw [ra] at h1
            refine h1.mono ?_
            rintro e w2 ⟨rfl, q2⟩
            have N2 := quiet_aft q2
            clear q2
            clear h1
            have A2 := A1.trans N2
            go_wp2_with fail
            have h1 := record_any B m d ys w2 (hb.aft A2)
            rw [rb] at h1
            refine h1.mono ?_
            rintro e w3 ⟨rfl, q3⟩
            have N3 := quiet_aft q3
            clear q3
            clear h1
            have A3 := A2.trans N3
            go_wp2_with fail
            have h1 := record_any C l e zs w3 (hc.aft A3)
            rw [rc] at h1
            refine h1.mono ?_
            rintro e w4 ⟨rfl, q4⟩
            have N4 := quiet_aft q4
            clear q4
            clear h1
            have A4 := A3.trans N4
            go_wp2_with fail
            have h1 := comp_any A n c xs B m d ys w4 (ha.aft A4) (hb.aft A4)
            rw [X1.out] at h1
            refine h1.mono ?_
            rintro e w5 ⟨rfl, N5⟩
            clear h1
            have A5 := A4.trans N5
            go_wp2_with fail
            have h1 := comp_any B m d ys C l e zs w5 (hb.aft A5) (hc.aft A5)
            rw [Y1.out] at h1
            refine h1.mono ?_
            rintro e w6 ⟨rfl, N6⟩
            clear h1
            have A6 := A5.trans N6
            go_wp2_with fail
            have h1 := comp_any A n c xs C l e zs w6 (ha.aft A6) (hc.aft A6)
            rw [Z1.out] at h1
            refine h1.mono ?_
            rintro e w7 ⟨rfl, N7⟩
            clear h1
            have A7 := A6.trans N7
            go_wp2_with fail
            have h1 := refComp_any A n c xs B m d ys w7 (ha.aft A7) (hb.aft A7)
            rw [X1.out] at h1
            refine h1.mono ?_
            rintro e w8 ⟨rfl, N8⟩
            clear h1
            have A8 := A7.trans N8
            go_wp2_with fail
            have h1 := comp_any B m d ys A n c xs w8 (hb.aft A8) (ha.aft A8)
            rw [NG.out] at h1
            refine h1.mono ?_
            rintro e w9 ⟨rfl, N9⟩
            clear h1
            have A9 := A8.trans N9
            go_wp2_with fail
            have h1 := same_any A n c xs B m d ys w9 (ha.aft A9) (hb.aft A9)
            rw [E1.out] at h1
            refine h1.mono ?_
            rintro e w10 ⟨rfl, q10⟩
            have N10 := quiet_aft q10
            clear q10
            clear h1
            have A10 := A9.trans N10
            go_wp2
            go_ret
            refine ⟨?_, A10⟩
            rfl
          · have X1 := Lib.hid x1
            have NG := Lib.hid (show cmpL ys xs = 1 by omega)
            have E1 := Lib.hid (show decide (xs = ys) = false by simp; intro h; have := hze.2 h; omega)
            have Y1 := Lib.hid y1
            have Z1 := Lib.hid (show cmpL xs zs = -1 by omega)
            clear x1 hs3 htr hng hze y1
            go_enter Try.func9, Try.ntmps9
            go_wp2_with fail
            have h1 := awake_any w
            refine h1.mono ?_
            rintro e w1 ⟨rfl, N1⟩
            clear h1
            have A1 := N1
            go_wp2_with fail
            have h1 := record_any A n c xs w1 (ha.aft A1)
            rw [ra] at h1
            refine h1.mono ?_
            rintro e w2 ⟨rfl, q2⟩
            have N2 := quiet_aft q2
            clear q2
            clear h1
            have A2 := A1.trans N2
            go_wp2_with fail
            have h1 := record_any B m d ys w2 (hb.aft A2)
            rw [rb] at h1
            refine h1.mono ?_
            rintro e w3 ⟨rfl, q3⟩
            have N3 := quiet_aft q3
            clear q3
            clear h1
            have A3 := A2.trans N3
            go_wp2_with fail
            have h1 := record_any C l e zs w3 (hc.aft A3)
            rw [rc] at h1
            refine h1.mono ?_
            rintro e w4 ⟨rfl, q4⟩
            have N4 := quiet_aft q4
            clear q4
            clear h1
            have A4 := A3.trans N4
            go_wp2_with fail
            have h1 := comp_any A n c xs B m d ys w4 (ha.aft A4) (hb.aft A4)
            rw [X1.out] at h1
            refine h1.mono ?_
            rintro e w5 ⟨rfl, N5⟩
            clear h1
            have A5 := A4.trans N5
            go_wp2_with fail
            have h1 := comp_any B m d ys C l e zs w5 (hb.aft A5) (hc.aft A5)
            rw [Y1.out] at h1
            refine h1.mono ?_
            rintro e w6 ⟨rfl, N6⟩
            clear h1
            have A6 := A5.trans N6
            go_wp2_with fail
            have h1 := comp_any A n c xs C l e zs w6 (ha.aft A6) (hc.aft A6)
            rw [Z1.out] at h1
            refine h1.mono ?_
            rintro e w7 ⟨rfl, N7⟩
            clear h1
            have A7 := A6.trans N7
            go_wp2_with fail
            have h1 := refComp_any A n c xs B m d ys w7 (ha.aft A7) (hb.aft A7)
            rw [X1.out] at h1
            refine h1.mono ?_
            rintro e w8 ⟨rfl, N8⟩
            clear h1
            have A8 := A7.trans N8
            go_wp2_with fail
            have h1 := comp_any B m d ys A n c xs w8 (hb.aft A8) (ha.aft A8)
            rw [NG.out] at h1
            refine h1.mono ?_
            rintro e w9 ⟨rfl, N9⟩
            clear h1
            have A9 := A8.trans N9
            go_wp2_with fail
            have h1 := same_any A n c xs B m d ys w9 (ha.aft A9) (hb.aft A9)
            rw [E1.out] at h1
            refine h1.mono ?_
            rintro e w10 ⟨rfl, q10⟩
            have N10 := quiet_aft q10
            clear q10
            clear h1
            have A10 := A9.trans N10
            go_wp2
            go_ret
            refine ⟨?_, A10⟩
            rfl
          · have X1 := Lib.hid x1
            have NG := Lib.hid (show cmpL ys xs = 1 by omega)
            have E1 := Lib.hid (show decide (xs = ys) = false by simp; intro h; have := hze.2 h; omega)
            have Y1 := Lib.hid y1
            clear x1 hs3 htr hng hze y1
            go_enter Try.func9, Try.ntmps9
            go_wp2_with fail
            have h1 := awake_any w
            refine h1.mono ?_
            rintro e w1 ⟨rfl, N1⟩
            clear h1
            have A1 := N1
            go_wp2_with fail
            have h1 := record_any A n c xs w1 (ha.aft A1)
            rw [ra] at h1
            refine h1.mono ?_
            rintro e w2 ⟨rfl, q2⟩
            have N2 := quiet_aft q2
            clear q2
            clear h1
            have A2 := A1.trans N2
            go_wp2_with fail
            have h1 := record_any B m d ys w2 (hb.aft A2)
            rw [rb] at h1
            refine h1.mono ?_
            rintro e w3 ⟨rfl, q3⟩
            have N3 := quiet_aft q3
            clear q3
            clear h1
            have A3 := A2.trans N3
            go_wp2_with fail
            have h1 := record_any C l e zs w3 (hc.aft A3)
            rw [rc] at h1
            refine h1.mono ?_
            rintro e w4 ⟨rfl, q4⟩
            have N4 := quiet_aft q4
            clear q4
            clear h1
            have A4 := A3.trans N4
            go_wp2_with fail
            have h1 := comp_any A n c xs B m d ys w4 (ha.aft A4) (hb.aft A4)
            rw [X1.out] at h1
            refine h1.mono ?_
            rintro e w5 ⟨rfl, N5⟩
            clear h1
            have A5 := A4.trans N5
            go_wp2_with fail
            have h1 := comp_any B m d ys C l e zs w5 (hb.aft A5) (hc.aft A5)
            rw [Y1.out] at h1
            refine h1.mono ?_
            rintro e w6 ⟨rfl, N6⟩
            clear h1
            have A6 := A5.trans N6
            go_wp2_with fail
            have h1 := comp_any A n c xs C l e zs w6 (ha.aft A6) (hc.aft A6)
            refine h1.mono ?_
            rintro e w7 ⟨rfl, N7⟩
            clear h1
            have A7 := A6.trans N7
            go_wp2_with fail
            have h1 := refComp_any A n c xs B m d ys w7 (ha.aft A7) (hb.aft A7)
            rw [X1.out] at h1
            refine h1.mono ?_
            rintro e w8 ⟨rfl, N8⟩
            clear h1
            have A8 := A7.trans N8
            go_wp2_with fail
            have h1 := comp_any B m d ys A n c xs w8 (hb.aft A8) (ha.aft A8)
            rw [NG.out] at h1
            refine h1.mono ?_
            rintro e w9 ⟨rfl, N9⟩
            clear h1
            have A9 := A8.trans N9
            go_wp2_with fail
            have h1 := same_any A n c xs B m d ys w9 (ha.aft A9) (hb.aft A9)
            rw [E1.out] at h1
            refine h1.mono ?_
            rintro e w10 ⟨rfl, q10⟩
            have N10 := quiet_aft q10
            clear q10
            clear h1
            have A10 := A9.trans N10
            go_wp2
            go_ret
            refine ⟨?_, A10⟩
            rfl
        · rcases hs2 with y1 | y1 | y1
          · have X1 := Lib.hid x1
            have NG := Lib.hid (show cmpL ys xs = 0 by omega)
            have E1 := Lib.hid (show decide (xs = ys) = true by simp; exact hze.1 x1)
            have Y1 := Lib.hid y1
            have Z1 := Lib.hid (show cmpL xs zs = -1 by omega)
            clear x1 hs3 htr hng hze y1
            go_enter Try.func9, Try.ntmps9
            go_wp2_with fail
            have h1 := awake_any w
            refine h1.mono ?_
            rintro e w1 ⟨rfl, N1⟩
            clear h1
            have A1 := N1
            go_wp2_with fail
            have h1 := record_any A n c xs w1 (ha.aft A1)
            rw [ra] at h1
            refine h1.mono ?_
            rintro e w2 ⟨rfl, q2⟩
            have N2 := quiet_aft q2
            clear q2
            clear h1
            have A2 := A1.trans N2
            go_wp2_with fail
            have h1 := record_any B m d ys w2 (hb.aft A2)
            rw [rb] at h1
            refine h1.mono ?_
            rintro e w3 ⟨rfl, q3⟩
            have N3 := quiet_aft q3
            clear q3
            clear h1
            have A3 := A2.trans N3
            go_wp2_with fail
            have h1 := record_any C l e zs w3 (hc.aft A3)
            rw [rc] at h1
            refine h1.mono ?_
            rintro e w4 ⟨rfl, q4⟩
            have N4 := quiet_aft q4
            clear q4
            clear h1
            have A4 := A3.trans N4
            go_wp2_with fail
            have h1 := comp_any A n c xs B m d ys w4 (ha.aft A4) (hb.aft A4)
            rw [X1.out] at h1
            refine h1.mono ?_
            rintro e w5 ⟨rfl, N5⟩
            clear h1
            have A5 := A4.trans N5
            go_wp2_with fail
            have h1 := comp_any B m d ys C l e zs w5 (hb.aft A5) (hc.aft A5)
            rw [Y1.out] at h1
            refine h1.mono ?_
            rintro e w6 ⟨rfl, N6⟩
            clear h1
            have A6 := A5.trans N6
            go_wp2_with fail
            have h1 := comp_any A n c xs C l e zs w6 (ha.aft A6) (hc.aft A6)
            rw [Z1.out] at h1
            refine h1.mono ?_
            rintro e w7 ⟨rfl, N7⟩
            clear h1
            have A7 := A6.trans N7
            go_wp2_with fail
            have h1 := refComp_any A n c xs B m d ys w7 (ha.aft A7) (hb.aft A7)
            rw [X1.out] at h1
            refine h1.mono ?_
            rintro e w8 ⟨rfl, N8⟩
            clear h1
            have A8 := A7.trans N8
            go_wp2_with fail
            have h1 := comp_any B m d ys A n c xs w8 (hb.aft A8) (ha.aft A8)
            rw [NG.out] at h1
            refine h1.mono ?_
            rintro e w9 ⟨rfl, N9⟩
            clear h1
            have A9 := A8.trans N9
            go_wp2_with fail
            have h1 := same_any A n c xs B m d ys w9 (ha.aft A9) (hb.aft A9)
            rw [E1.out] at h1
            refine h1.mono ?_
            rintro e w10 ⟨rfl, q10⟩
            have N10 := quiet_aft q10
            clear q10
            clear h1
            have A10 := A9.trans N10
            go_wp2
            go_ret
            refine ⟨?_, A10⟩
            rfl
          · have X1 := Lib.hid x1
            have NG := Lib.hid (show cmpL ys xs = 0 by omega)
            have E1 := Lib.hid (show decide (xs = ys) = true by simp; exact hze.1 x1)
            have Y1 := Lib.hid y1
            have Z1 := Lib.hid (show cmpL xs zs = 0 by omega)
            clear x1 hs3 htr hng hze y1
            go_enter Try.func9, Try.ntmps9
            go_wp2_with fail
            have h1 := awake_any w
            refine h1.mono ?_
            rintro e w1 ⟨rfl, N1⟩
            clear h1
            have A1 := N1
            go_wp2_with fail
            have h1 := record_any A n c xs w1 (ha.aft A1)
            rw [ra] at h1
            refine h1.mono ?_
            rintro e w2 ⟨rfl, q2⟩
            have N2 := quiet_aft q2
            clear q2
            clear h1
            have A2 := A1.trans N2
            go_wp2_with fail
            have h1 := record_any B m d ys w2 (hb.aft A2)
            rw [rb] at h1
            refine h1.mono ?_
            rintro e w3 ⟨rfl, q3⟩
            have N3 := quiet_aft q3
            clear q3
            clear h1
            have A3 := A2.trans N3
            go_wp2_with fail
            have h1 := record_any C l e zs w3 (hc.aft A3)
            rw [rc] at h1
            refine h1.mono ?_
            rintro e w4 ⟨rfl, q4⟩
            have N4 := quiet_aft q4
            clear q4
            clear h1
            have A4 := A3.trans N4
            go_wp2_with fail
            have h1 := comp_any A n c xs B m d ys w4 (ha.aft A4) (hb.aft A4)
            rw [X1.out] at h1
            refine h1.mono ?_
            rintro e w5 ⟨rfl, N5⟩
            clear h1
            have A5 := A4.trans N5
            go_wp2_with fail
            have h1 := comp_any B m d ys C l e zs w5 (hb.aft A5) (hc.aft A5)
            rw [Y1.out] at h1
            refine h1.mono ?_
            rintro e w6 ⟨rfl, N6⟩
            clear h1
            have A6 := A5.trans N6
            go_wp2_with fail
            have h1 := comp_any A n c xs C l e zs w6 (ha.aft A6) (hc.aft A6)
            rw [Z1.out] at h1
            refine h1.mono ?_
            rintro e w7 ⟨rfl, N7⟩
            clear h1
            have A7 := A6.trans N7
            go_wp2_with fail
            have h1 := refComp_any A n c xs B m d ys w7 (ha.aft A7) (hb.aft A7)
            rw [X1.out] at h1
            refine h1.mono ?_
            rintro e w8 ⟨rfl, N8⟩
            clear h1
            have A8 := A7.trans N8
            go_wp2_with fail
            have h1 := comp_any B m d ys A n c xs w8 (hb.aft A8) (ha.aft A8)
            rw [NG.out] at h1
            refine h1.mono ?_
            rintro e w9 ⟨rfl, N9⟩
            clear h1
            have A9 := A8.trans N9
            go_wp2_with fail
            have h1 := same_any A n c xs B m d ys w9 (ha.aft A9) (hb.aft A9)
            rw [E1.out] at h1
            refine h1.mono ?_
            rintro e w10 ⟨rfl, q10⟩
            have N10 := quiet_aft q10
            clear q10
            clear h1
            have A10 := A9.trans N10
            go_wp2
            go_ret
            refine ⟨?_, A10⟩
            rfl
          · have X1 := Lib.hid x1
            have NG := Lib.hid (show cmpL ys xs = 0 by omega)
            have E1 := Lib.hid (show decide (xs = ys) = true by simp; exact hze.1 x1)
            have Y1 := Lib.hid y1
            clear x1 hs3 htr hng hze y1
            go_enter Try.func9, Try.ntmps9
            go_wp2_with fail
            have h1 := awake_any w
            refine h1.mono ?_
            rintro e w1 ⟨rfl, N1⟩
            clear h1
            have A1 := N1
            go_wp2_with fail
            have h1 := record_any A n c xs w1 (ha.aft A1)
            rw [ra] at h1
            refine h1.mono ?_
            rintro e w2 ⟨rfl, q2⟩
            have N2 := quiet_aft q2
            clear q2
            clear h1
            have A2 := A1.trans N2
            go_wp2_with fail
            have h1 := record_any B m d ys w2 (hb.aft A2)
            rw [rb] at h1
            refine h1.mono ?_
            rintro e w3 ⟨rfl, q3⟩
            have N3 := quiet_aft q3
            clear q3
            clear h1
            have A3 := A2.trans N3
            go_wp2_with fail
            have h1 := record_any C l e zs w3 (hc.aft A3)
            rw [rc] at h1
            refine h1.mono ?_
            rintro e w4 ⟨rfl, q4⟩
            have N4 := quiet_aft q4
            clear q4
            clear h1
            have A4 := A3.trans N4
            go_wp2_with fail
            have h1 := comp_any A n c xs B m d ys w4 (ha.aft A4) (hb.aft A4)
            rw [X1.out] at h1
            refine h1.mono ?_
            rintro e w5 ⟨rfl, N5⟩
            clear h1
            have A5 := A4.trans N5
            go_wp2_with fail
            have h1 := comp_any B m d ys C l e zs w5 (hb.aft A5) (hc.aft A5)
            rw [Y1.out] at h1
            refine h1.mono ?_
            rintro e w6 ⟨rfl, N6⟩
            clear h1
            have A6 := A5.trans N6
            go_wp2_with fail
            have h1 := comp_any A n c xs C l e zs w6 (ha.aft A6) (hc.aft A6)
            refine h1.mono ?_
            rintro e w7 ⟨rfl, N7⟩
            clear h1
            have A7 := A6.trans N7
            go_wp2_with fail
            have h1 := refComp_any A n c xs B m d ys w7 (ha.aft A7) (hb.aft A7)
            rw [X1.out] at h1
            refine h1.mono ?_
            rintro e w8 ⟨rfl, N8⟩
            clear h1
            have A8 := A7.trans N8
            go_wp2_with fail
            have h1 := comp_any B m d ys A n c xs w8 (hb.aft A8) (ha.aft A8)
            rw [NG.out] at h1
            refine h1.mono ?_
            rintro e w9 ⟨rfl, N9⟩
            clear h1
            have A9 := A8.trans N9
            go_wp2_with fail
            have h1 := same_any A n c xs B m d ys w9 (ha.aft A9) (hb.aft A9)
            rw [E1.out] at h1
            refine h1.mono ?_
            rintro e w10 ⟨rfl, q10⟩
            have N10 := quiet_aft q10
            clear q10
            clear h1
            have A10 := A9.trans N10
            go_wp2
            go_ret
            refine ⟨?_, A10⟩
            rfl
        · have X1 := Lib.hid x1
          have NG := Lib.hid (show cmpL ys xs = -1 by omega)
          have E1 := Lib.hid (show decide (xs = ys) = false by simp; intro h; have := hze.2 h; omega)
          clear x1 hs3 htr hng hze hs2
          go_enter Try.func9, Try.ntmps9
          go_wp2_with fail
          have h1 := awake_any w
          refine h1.mono ?_
          rintro e w1 ⟨rfl, N1⟩
          clear h1
          have A1 := N1
          go_wp2_with fail
          have h1 := record_any A n c xs w1 (ha.aft A1)
          rw [ra] at h1
          refine h1.mono ?_
          rintro e w2 ⟨rfl, q2⟩
          have N2 := quiet_aft q2
          clear q2
          clear h1
          have A2 := A1.trans N2
          go_wp2_with fail
          have h1 := record_any B m d ys w2 (hb.aft A2)
          rw [rb] at h1
          refine h1.mono ?_
          rintro e w3 ⟨rfl, q3⟩
          have N3 := quiet_aft q3
          clear q3
          clear h1
          have A3 := A2.trans N3
          go_wp2_with fail
          have h1 := record_any C l e zs w3 (hc.aft A3)
          rw [rc] at h1
          refine h1.mono ?_
          rintro e w4 ⟨rfl, q4⟩
          have N4 := quiet_aft q4
          clear q4
          clear h1
          have A4 := A3.trans N4
          go_wp2_with fail
          have h1 := comp_any A n c xs B m d ys w4 (ha.aft A4) (hb.aft A4)
          rw [X1.out] at h1
          refine h1.mono ?_
          rintro e w5 ⟨rfl, N5⟩
          clear h1
          have A5 := A4.trans N5
          go_wp2_with fail
          have h1 := comp_any B m d ys C l e zs w5 (hb.aft A5) (hc.aft A5)
          refine h1.mono ?_
          rintro e w6 ⟨rfl, N6⟩
          clear h1
          have A6 := A5.trans N6
          go_wp2_with fail
          have h1 := comp_any A n c xs C l e zs w6 (ha.aft A6) (hc.aft A6)
          refine h1.mono ?_
          rintro e w7 ⟨rfl, N7⟩
          clear h1
          have A7 := A6.trans N7
          go_wp2_with fail
          have h1 := refComp_any A n c xs B m d ys w7 (ha.aft A7) (hb.aft A7)
          rw [X1.out] at h1
          refine h1.mono ?_
          rintro e w8 ⟨rfl, N8⟩
          clear h1
          have A8 := A7.trans N8
          go_wp2_with fail
          have h1 := comp_any B m d ys A n c xs w8 (hb.aft A8) (ha.aft A8)
          rw [NG.out] at h1
          refine h1.mono ?_
          rintro e w9 ⟨rfl, N9⟩
          clear h1
          have A9 := A8.trans N9
          go_wp2_with fail
          have h1 := same_any A n c xs B m d ys w9 (ha.aft A9) (hb.aft A9)
          rw [E1.out] at h1
          refine h1.mono ?_
          rintro e w10 ⟨rfl, q10⟩
          have N10 := quiet_aft q10
          clear q10
          clear h1
          have A10 := A9.trans N10
          go_wp2
          go_ret
          refine ⟨?_, A10⟩
          rfl
      · have rc' : ascB zs = false := by simpa using rc
        go_enter Try.func9, Try.ntmps9
        go_wp2_with fail
        have h1 := awake_any w
        refine h1.mono ?_
        rintro e w1 ⟨rfl, N1⟩
        clear h1
        have A1 := N1
        go_wp2_with fail
        have h1 := record_any A n c xs w1 (ha.aft A1)
        rw [ra] at h1
        refine h1.mono ?_
        rintro e w2 ⟨rfl, q2⟩
        have N2 := quiet_aft q2
        clear q2
        clear h1
        have A2 := A1.trans N2
        go_wp2_with fail
        have h1 := record_any B m d ys w2 (hb.aft A2)
        rw [rb] at h1
        refine h1.mono ?_
        rintro e w3 ⟨rfl, q3⟩
        have N3 := quiet_aft q3
        clear q3
        clear h1
        have A3 := A2.trans N3
        go_wp2_with fail
        have h1 := record_any C l e zs w3 (hc.aft A3)
        rw [rc'] at h1
        refine h1.mono ?_
        rintro e w4 ⟨rfl, q4⟩
        have N4 := quiet_aft q4
        clear q4
        clear h1
        have A4 := A3.trans N4
        go_wp2
        go_ret
        refine ⟨?_, A4⟩
        rfl
    · have rb' : ascB ys = false := by simpa using rb
      go_enter Try.func9, Try.ntmps9
      go_wp2_with fail
      have h1 := awake_any w
      refine h1.mono ?_
      rintro e w1 ⟨rfl, N1⟩
      clear h1
      have A1 := N1
      go_wp2_with fail
      have h1 := record_any A n c xs w1 (ha.aft A1)
      rw [ra] at h1
      refine h1.mono ?_
      rintro e w2 ⟨rfl, q2⟩
      have N2 := quiet_aft q2
      clear q2
      clear h1
      have A2 := A1.trans N2
      go_wp2_with fail
      have h1 := record_any B m d ys w2 (hb.aft A2)
      rw [rb'] at h1
      refine h1.mono ?_
      rintro e w3 ⟨rfl, q3⟩
      have N3 := quiet_aft q3
      clear q3
      clear h1
      have A3 := A2.trans N3
      go_wp2
      go_ret
      refine ⟨?_, A3⟩
      rfl
  · have ra' : ascB xs = false := by simpa using ra
    go_enter Try.func9, Try.ntmps9
    go_wp2_with fail
    have h1 := awake_any w
    refine h1.mono ?_
    rintro e w1 ⟨rfl, N1⟩
    clear h1
    have A1 := N1
    go_wp2_with fail
    have h1 := record_any A n c xs w1 (ha.aft A1)
    rw [ra'] at h1
    refine h1.mono ?_
    rintro e w2 ⟨rfl, q2⟩
    have N2 := quiet_aft q2
    clear q2
    clear h1
    have A2 := A1.trans N2
    go_wp2
    go_ret
    refine ⟨?_, A2⟩
    rfl

theorem own : ownKnob Try.prog.godebug = none := by kernel_rfl
theorem laidOut : laidOutB Try.prog = true := by kernel_rfl
theorem bytesF : Try.prog.bytesOf 29 = 32 := by kernel_rfl

set_option maxRecDepth 100000 in
theorem contract (H : Type) (enc : TypeId × Value → H) (W : World) (base : Nat) (args : Array Value) (ds gs : List (DataW H)) (before : List MemPlace)
    (hval : ∀ (j : Nat) t v, Try.f9.params[j]? = some t → args[j]? = some v → Value.okWide Try.prog W .any base t v)
    (hW : DataW.Whole enc Try.prog Try.f9.params.toList Rows.featureComparesSpec.vars false W args.toList ds gs before) (hsz0 : (DataW.weightsEach Try.prog (Try.f9.params.toList ++ Rows.featureComparesSpec.plain.varTypes Try.prog) (ds ++ gs)).all (· ≤ reachBytes) = true) :
    Calls Try.prog 9 args W fun e W' => ∃ v, e = .returned v ∧ Rows.featureComparesSpec.post enc Try.prog Try.f9 false true false false W args v W' := by
  have hW' := hW
  obtain ⟨p, q, hA0, hV, rfl, hfz, hnd⟩ := hW
  have hA : DataW.TrodAll enc Try.prog W 0 (fun _ => true) true Try.f9.params.toList args.toList ds p := hA0
  have hsz := hsz0
  rw [Try.params9] at hA hval hsz
  obtain ⟨v0, vs0, d0, ds0, p0, q0, hargs, rfl, rfl, h0, r0⟩ := trodAll_cons hA
  obtain ⟨v1, vs1, d1, ds1, p1, q1, rfl, rfl, rfl, h1, r1⟩ := trodAll_cons r0
  obtain ⟨v2, vs2, d2, ds2, p2, q2, rfl, rfl, rfl, h2, r2⟩ := trodAll_cons r1
  obtain ⟨rfl, rfl, rfl⟩ := trodAll_nil r2
  obtain rfl : args = #[v0, v1, v2] := by cases args; simp_all
  obtain ⟨rfl, rfl⟩ := trodVars_none hV
  obtain ⟨a0, len0, cap0, rfl⟩ := okWide_slice Try.underlying22 (hval 0 22 v0 rfl rfl)
  have lt0 : ∀ x ∈ p0, x.block < W.heap.size := by obtain ⟨m, hm⟩ := h0; exact DataW.trod_lt m _ _ _ hm
  obtain ⟨xs0, s0, z0, b0⟩ := feats_of h0 (Nat.le_refl _) (fun el sp e => by have := sized_slice hsz (j := 0) (t := 22) (e := 29) rfl (by rw [e]; rfl) Try.underlying22; rwa [bytesF] at this)
  obtain ⟨a1, len1, cap1, rfl⟩ := okWide_slice Try.underlying22 (hval 1 22 v1 rfl rfl)
  have lt1 : ∀ x ∈ p1, x.block < W.heap.size := by obtain ⟨m, hm⟩ := h1; exact DataW.trod_lt m _ _ _ hm
  obtain ⟨xs1, s1, z1, b1⟩ := feats_of h1 (Nat.le_refl _) (fun el sp e => by have := sized_slice hsz (j := 1) (t := 22) (e := 29) rfl (by rw [e]; rfl) Try.underlying22; rwa [bytesF] at this)
  obtain ⟨a2, len2, cap2, rfl⟩ := okWide_slice Try.underlying22 (hval 2 22 v2 rfl rfl)
  have lt2 : ∀ x ∈ p2, x.block < W.heap.size := by obtain ⟨m, hm⟩ := h2; exact DataW.trod_lt m _ _ _ hm
  obtain ⟨xs2, s2, z2, b2⟩ := feats_of h2 (Nat.le_refl _) (fun el sp e => by have := sized_slice hsz (j := 2) (t := 22) (e := 29) rfl (by rw [e]; rfl) Try.underlying22; rwa [bytesF] at this)
  clear hA0
  refine (walk a0 len0 cap0 xs0 a1 len1 cap1 xs1 a2 len2 cap2 xs2 W s0 z0 b0 s1 z1 b1 s2 z2 b2).mono fun e W' ⟨he, bel⟩ => ?_
  subst he
  exact ⟨_, rfl, _, _, _, [], _, [], hW', trodAll_mk1 (shut_bool Try.underlying4 _), (trodAll_cons_mk (Below.trod laidOut (by kernel_rfl) (of_decide_eq_true (by kernel_rfl)) h0 bel lt0) (trodAll_cons_mk (Below.trod laidOut (by kernel_rfl) (of_decide_eq_true (by kernel_rfl)) h1 bel lt1) (trodAll_cons_mk (Below.trod laidOut (by kernel_rfl) (of_decide_eq_true (by kernel_rfl)) h2 bel lt2) trodAll_mk0))), rfl, Below.frame bel _, fun h => by cases h⟩

set_option maxRecDepth 100000 in
theorem lifted (os : Os) (started : os.Started) (H : Type) (enc : TypeId × Value → H) :
    ReturnsInHanded {} Try.checked os 9 .any (Rows.featureComparesSpec.pre6 enc Try.prog Try.f9 Rows.featureComparesRow.domain false) (Rows.featureComparesSpec.post enc Try.prog Try.f9 false true false false) := by
  refine returnsInHanded_of_change_sized (C := Try.checked) own started (by kernel_rfl) Try.func9
    (ChangeSpec.witness6 (enc := enc) (C := Try.checked) false ⟨#[], #[.slice none 0 0, .slice none 0 0, .slice none 0 0], []⟩ 8 (by kernel_rfl) (by kernel_rfl) (by kernel_rfl) (by kernel_rfl)) ?_
  intro W base args ds gs before hval hW _ hsz _
  exact contract H enc W base args ds gs before hval hW hsz

theorem proved : Rows.FeatureComparesSaid :=
  OpenClaim.holds_of_wide 9 Try.f9 rfl rfl rfl rfl rfl rfl rfl ⟨rfl, rfl, rfl, rfl, rfl⟩ rfl rfl rfl rfl rfl (by kernel_rfl) Try.func9 (by kernel_rfl)
    (of_decide_eq_true (by kernel_rfl)) (by unfold Func.isWrapper; rw [if_neg (of_decide_eq_false (by kernel_rfl))]; exact ⟨rfl, rfl⟩)
    (fun os started H enc _ => lifted os started H enc)
#print axioms proved
end Go.Proofs.Ythmehnigpnhnbab.lawCompares
