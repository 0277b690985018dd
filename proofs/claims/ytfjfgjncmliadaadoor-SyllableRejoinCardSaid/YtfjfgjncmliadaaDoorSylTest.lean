/-
  The closures of onsetTest, ContainsFunc and EqualFunc over lists of masks, Onset and Valid. Conditions: the slices hold the letters, masks and runes; the runes are int32s; a string has at most 1000000 bytes.
-/
import Derived.Test.YtfjfgjncmliadaaDoorSylNuc
import Derived.Laws.EntriesVeiled
namespace Go.Proofs.YtfjfgjncmliadaaDoor
open Go.RowKit Go.Maps
open AlphPlain

/-- A list of masks, and where it lies. -/
structure Mk where
  a : Option Addr
  n : Nat
  c : Nat
  ms : List Int
def Mk.enc (x : Mk) : Value := .slice x.a x.n x.c
/-- THE SLICE '.slice A n c' HOLDS the lists of masks os. -/
structure Ons (w : World) (A : Option Addr) (n c : Nat) (os : List Mk) : Prop where
  row : Rw Mk.enc w A n c os
  each : ∀ x ∈ os, Rw vU w x.a x.n x.c x.ms
theorem Ons.aft {w w' : World} {A : Option Addr} {n c : Nat} {os : List Mk} (h : Ons w A n c os) (k : Aft w w') : Ons w' A n c os := ⟨h.row.aft k, fun x hx => (h.each x hx).aft k⟩
/-- The value of phonotactics. -/
abbrev pV (A : Option Addr) (n c : Nat) (L R : Int) : Value := .agg #[.slice A n c, .int .i64 L, .int .i64 R]
def masks (os : List Mk) : List (List Int) := os.map Mk.ms

theorem runes_wf (s : ByteArray) : ∀ b p, ∀ r ∈ runesL s b p, (Lit.int .i32 r).wf = true
  | 0, _, r, h => by cases h
  | b + 1, p, r, h => by
    rw [runesL] at h
    split at h
    · rcases List.mem_cons.1 h with rfl | h
      · exact decode_wf s p
      · exact runes_wf s b _ r h
    · cases h

theorem conv_cap (s : ByteArray) (w : World) (hs : s.size ≤ 1000000) : convC s w ≤ 9223372036854775807 := by
  have h := grownCap_le_maxLen w (Conv.runesFrom s s.size 0 #[]).size 0 21 (by have := size_runesFrom s s.size 0 #[]; simp at this; unfold maxLen; omega)
  unfold maxLen at h
  unfold convC
  exact h

theorem hit_any (m r : Int) (Bc Bm k : Nat) (D : DataW Unit) (ls : List Lt) (w : World) (hc : w.cell? ⟨Bc, 0, none⟩ = some (.map (some Bm))) (hm : ClsIn w Bm k D ls) (hr : (Lit.int .i32 r).wf = true) :
    Calls Tryd.prog 56 #[.int .u32 m, .int .i32 r, .pointer (some ⟨Bc, 0, none⟩)] w (fun e w' => e = .returned (.bool (hitB ls m r)) ∧ w = w') := by
  have hl := hm.two hr
  have HV := Lib.hid (show hitB ls m r = (AlphPlain.has ls r && decide (bits .and .u32 (clsOf ls r) m = m)) from rfl)
  generalize clsOf ls r = c at *
  cases hh : AlphPlain.has ls r
  · rw [hh] at hl HV
    go_enter Tryd.func56, Tryd.ntmps56
    go_wp2
    go_ret
    exact ⟨by rw [HV.out]; rfl, rfl⟩
  · rw [hh] at hl HV
    by_cases hz : bits .and .u32 c m = m
    · go_enter Tryd.func56, Tryd.ntmps56
      go_wp2
      go_ret
      exact ⟨by rw [HV.out]; simp [hz], rfl⟩
    · go_enter Tryd.func56, Tryd.ntmps56
      go_wp2
      go_ret
      exact ⟨by rw [HV.out]; simp [hz], rfl⟩

set_option maxRecDepth 100000 in
set_option maxHeartbeats 1600000 in
theorem equalFunc_any (A : Option Addr) (n c : Nat) (ms : List Int) (B : Option Addr) (m d : Nat) (rs : List Int) (Bc Bm k : Nat) (D : DataW Unit) (ls : List Lt) (w : World) (ha : Rw vU w A n c ms) (hb : Rr w B m d rs) (hd : d ≤ 9223372036854775807)
    (hc : w.cell? ⟨Bc, 0, none⟩ = some (.map (some Bm))) (hm : ClsIn w Bm k D ls) (hwf : ∀ r ∈ rs, (Lit.int .i32 r).wf = true) :
    Calls Tryd.prog 59 #[.slice A n c, .slice B m d, .func (.func 56) #[] #[.pointer (some ⟨Bc, 0, none⟩)]] w (fun e w' => e = .returned (.bool (fitB ls ms rs)) ∧ w = w') := by
  have hac := ha.le
  have hbc := hb.le
  have hcm := ha.cmax
  have hla := Lib.hid ha.len
  have hlb := Lib.hid hb.len
  have HC := Lib.hid hc
  have HM := Lib.hid hm
  clear hc hm
  by_cases hnm : n = m
  · subst hnm
    go_enter Tryd.func59, Tryd.ntmps59
    go_wp2
    go_loopw [17] (fun i wr => ∃ j : Nat, j ≤ n ∧ i = .int .i64 (j : Nat) ∧ fitB ls ms rs = fitB ls (ms.drop j) (rs.drop j) ∧ w = wr) (fun i _ => n - (intOf i).toNat)
    case atStart => exact ⟨0, Nat.zero_le _, rfl, rfl, rfl⟩
    case round =>
      obtain ⟨j, hj, rfl, he, rfl⟩ := hrel
      have HE := Lib.hid he
      clear he
      by_cases hlt : j < n
      · obtain ⟨b, off, x, rfl, hx, g1⟩ := ha.at_ hlt
        obtain ⟨b2, off2, r, rfl, hr, g2⟩ := hb.at_ hlt
        have hwr := hwf r (List.mem_of_getElem? hr)
        have hcall := hit_any x r Bc Bm k D ls w HC.out HM.out hwr
        have HS := Lib.hid (fitB_step (ls := ls) hx hr)
        have hji : (j : Int) < (n : Int) := by omega
        clear hx hr
        cases hh : hitB ls x r
        · rw [hh] at hcall
          have HH := Lib.hid hh
          clear hh
          go_wp2_with fail
          refine hcall.mono ?_
          rintro e w1 ⟨rfl, rfl⟩
          clear hcall
          go_wp2
          go_ret
          exact ⟨by rw [HE.out, HS.out, HH.out]; rfl, rfl⟩
        · rw [hh] at hcall
          have HH := Lib.hid hh
          clear hh
          go_wp2_with fail
          refine hcall.mono ?_
          rintro e w1 ⟨rfl, rfl⟩
          clear hcall
          go_wp2
          go_roundw
          case rel => exact ⟨j + 1, by omega, by go_num, by rw [HE.out, HS.out, HH.out]; rfl, trivial⟩
          case measure => simp [intOf]; omega
      · obtain rfl : j = n := by omega
        have HF := Lib.hid (fitB_end (ls := ls) hla.out hlb.out)
        go_wp2
        go_ret
        exact ⟨by rw [HE.out, HF.out]; rfl, rfl⟩
  · have hnm' : ¬ (n : Int) = (m : Int) := by omega
    have HF := Lib.hid (fitB_len (ls := ls) (show ms.length ≠ rs.length by rw [hla.out, hlb.out]; exact hnm))
    go_enter Tryd.func59, Tryd.ntmps59
    go_wp2
    go_ret
    exact ⟨by rw [HF.out]; rfl, rfl⟩

theorem fit_any (A : Option Addr) (n c : Nat) (ms : List Int) (B : Option Addr) (m d : Nat) (rs : List Int) (Bl Bh Bc Bm k : Nat) (D : DataW Unit) (ls : List Lt) (w : World) (ha : Rw vU w A n c ms) (hb : Rr w B m d rs) (hd : d ≤ 9223372036854775807)
    (hl : w.cell? ⟨Bl, 0, none⟩ = some (.slice B m d)) (hh : w.cell? ⟨Bh, 0, none⟩ = some (.func (.func 56) #[] #[.pointer (some ⟨Bc, 0, none⟩)])) (hc : w.cell? ⟨Bc, 0, none⟩ = some (.map (some Bm))) (hm : ClsIn w Bm k D ls) (hwf : ∀ r ∈ rs, (Lit.int .i32 r).wf = true) :
    Calls Tryd.prog 58 #[.slice A n c, .pointer (some ⟨Bl, 0, none⟩), .pointer (some ⟨Bh, 0, none⟩)] w (fun e w' => e = .returned (.bool (fitB ls ms rs)) ∧ w = w') := by
  have H1 := Lib.hid (equalFunc_any A n c ms B m d rs Bc Bm k D ls w ha hb hd hc hm hwf)
  clear ha hb hm
  go_enter Tryd.func58, Tryd.ntmps58
  go_wp2_with fail
  refine H1.out.mono ?_
  rintro e w1 ⟨rfl, rfl⟩
  go_wp2
  go_ret
  exact ⟨rfl, rfl⟩

theorem long_any (A : Option Addr) (n c : Nat) (w : World) (h : n ≤ 9223372036854775807) :
    Calls Tryd.prog 34 #[.slice A n c] w (fun e w' => e = .returned (.bool (decide (4 < n))) ∧ w = w') := by
  by_cases h4 : 4 < n
  · have h4' : (4 : Int) < (n : Int) := by omega
    go_enter Tryd.func34, Tryd.ntmps34
    go_wp2
    go_ret
    exact ⟨by simp [h4], rfl⟩
  · have h4' : ¬ (4 : Int) < (n : Int) := by omega
    go_enter Tryd.func34, Tryd.ntmps34
    go_wp2
    go_ret
    exact ⟨by simp, rfl⟩

set_option maxRecDepth 100000 in
set_option maxHeartbeats 1600000 in
theorem indexFunc0_any (A : Option Addr) (n c : Nat) (os : List Mk) (g : Nat) (p : Mk → Bool) (w : World) (ha : Rw Mk.enc w A n c os) (ht : ∀ x ∈ os, Calls Tryd.prog g #[.slice x.a x.n x.c] w (fun e w' => e = .returned (.bool (p x)) ∧ w = w')) (hcf : ∀ args w, (callFunc g args).run Tryd.prog w = .ok (.enter g args) w) :
    Calls Tryd.prog 51 #[.slice A n c, .func (.func g) #[] #[]] w (fun e w' => ∃ z : Int, e = .returned (.int .i64 z) ∧ decide (0 ≤ z) = os.any p ∧ w = w') := by
  have hac := ha.le
  have hcm := ha.cmax
  have hla := Lib.hid ha.len
  have HT := Lib.hid ht
  clear ht
  go_enter Tryd.func51, Tryd.ntmps51
  go_wp2
  go_loopw [8] (fun i wr => ∃ j : Nat, j ≤ n ∧ i = .int .i64 (j : Nat) ∧ os.any p = (os.drop j).any p ∧ w = wr) (fun i _ => n - (intOf i).toNat)
  case atStart => exact ⟨0, Nat.zero_le _, rfl, rfl, rfl⟩
  case round =>
    obtain ⟨j, hj, rfl, he, rfl⟩ := hrel
    have HE := Lib.hid he
    clear he
    by_cases hlt : j < n
    · obtain ⟨b, off, x, rfl, hx, g1⟩ := ha.at_ hlt
      dsimp only [Mk.enc] at g1
      have hcall := HT.out x (List.mem_of_getElem? hx)
      have HS := Lib.hid (drop_of_get hx)
      have hji : (j : Int) < (n : Int) := by omega
      clear hx
      cases hh : p x
      · rw [hh] at hcall
        have HH := Lib.hid hh
        have HC := Lib.hid hcall
        clear hh hcall
        go_wp2_with fail
        refine HC.out.mono ?_
        rintro e w1 ⟨rfl, rfl⟩
        go_wp2
        go_roundw
        case rel => exact ⟨j + 1, by omega, by go_num, by rw [HE.out, HS.out, List.any_cons, HH.out]; rfl, trivial⟩
        case measure => simp [intOf]; omega
      · rw [hh] at hcall
        have HH := Lib.hid hh
        have HC := Lib.hid hcall
        clear hh hcall
        go_wp2_with fail
        refine HC.out.mono ?_
        rintro e w1 ⟨rfl, rfl⟩
        go_wp2
        go_ret
        exact ⟨(j : Int), rfl, by rw [HE.out, HS.out, List.any_cons, HH.out]; simp, rfl⟩
    · obtain rfl : j = n := by omega
      go_wp2
      go_ret
      exact ⟨-1, rfl, by rw [HE.out, List.drop_of_length_le (by rw [hla.out]; exact Nat.le_refl _)]; rfl, rfl⟩

theorem containsFunc0_any (A : Option Addr) (n c : Nat) (os : List Mk) (g : Nat) (p : Mk → Bool) (w : World) (ha : Rw Mk.enc w A n c os) (ht : ∀ x ∈ os, Calls Tryd.prog g #[.slice x.a x.n x.c] w (fun e w' => e = .returned (.bool (p x)) ∧ w = w')) (hcf : ∀ args w, (callFunc g args).run Tryd.prog w = .ok (.enter g args) w) :
    Calls Tryd.prog 35 #[.slice A n c, .func (.func g) #[] #[]] w (fun e w' => e = .returned (.bool (os.any p)) ∧ w = w') := by
  have H1 := Lib.hid (indexFunc0_any A n c os g p w ha ht hcf)
  clear ha ht hcf
  go_enter Tryd.func35, Tryd.ntmps35
  go_wp2_with fail
  refine H1.out.mono ?_
  rintro e w1 ⟨z, rfl, hz, rfl⟩
  clear H1
  by_cases h0 : 0 ≤ z
  · rw [decide_eq_true h0] at hz
    have HZ := Lib.hid hz
    clear hz
    go_wp2
    go_ret
    exact ⟨by rw [← HZ.out]; rfl, rfl⟩
  · rw [decide_eq_false h0] at hz
    have HZ := Lib.hid hz
    clear hz
    go_wp2
    go_ret
    exact ⟨by rw [← HZ.out]; simp; omega, rfl⟩

set_option maxRecDepth 100000 in
set_option maxHeartbeats 1600000 in
theorem indexFunc2_any (A : Option Addr) (n c : Nat) (os : List Mk) (g : Nat) (P1 P2 : Addr) (p : Mk → Bool) (w : World) (ha : Rw Mk.enc w A n c os) (ht : ∀ x ∈ os, Calls Tryd.prog g #[.slice x.a x.n x.c, .pointer (some P1), .pointer (some P2)] w (fun e w' => e = .returned (.bool (p x)) ∧ w = w')) (hcf : ∀ args w, (callFunc g args).run Tryd.prog w = .ok (.enter g args) w) :
    Calls Tryd.prog 51 #[.slice A n c, .func (.func g) #[] #[.pointer (some P1), .pointer (some P2)]] w (fun e w' => ∃ z : Int, e = .returned (.int .i64 z) ∧ decide (0 ≤ z) = os.any p ∧ w = w') := by
  have hac := ha.le
  have hcm := ha.cmax
  have hla := Lib.hid ha.len
  have HT := Lib.hid ht
  clear ht
  go_enter Tryd.func51, Tryd.ntmps51
  go_wp2
  go_loopw [8] (fun i wr => ∃ j : Nat, j ≤ n ∧ i = .int .i64 (j : Nat) ∧ os.any p = (os.drop j).any p ∧ w = wr) (fun i _ => n - (intOf i).toNat)
  case atStart => exact ⟨0, Nat.zero_le _, rfl, rfl, rfl⟩
  case round =>
    obtain ⟨j, hj, rfl, he, rfl⟩ := hrel
    have HE := Lib.hid he
    clear he
    by_cases hlt : j < n
    · obtain ⟨b, off, x, rfl, hx, g1⟩ := ha.at_ hlt
      dsimp only [Mk.enc] at g1
      have hcall := HT.out x (List.mem_of_getElem? hx)
      have HS := Lib.hid (drop_of_get hx)
      have hji : (j : Int) < (n : Int) := by omega
      clear hx
      cases hh : p x
      · rw [hh] at hcall
        have HH := Lib.hid hh
        have HC := Lib.hid hcall
        clear hh hcall
        go_wp2_with fail
        refine HC.out.mono ?_
        rintro e w1 ⟨rfl, rfl⟩
        go_wp2
        go_roundw
        case rel => exact ⟨j + 1, by omega, by go_num, by rw [HE.out, HS.out, List.any_cons, HH.out]; rfl, trivial⟩
        case measure => simp [intOf]; omega
      · rw [hh] at hcall
        have HH := Lib.hid hh
        have HC := Lib.hid hcall
        clear hh hcall
        go_wp2_with fail
        refine HC.out.mono ?_
        rintro e w1 ⟨rfl, rfl⟩
        go_wp2
        go_ret
        exact ⟨(j : Int), rfl, by rw [HE.out, HS.out, List.any_cons, HH.out]; simp, rfl⟩
    · obtain rfl : j = n := by omega
      go_wp2
      go_ret
      exact ⟨-1, rfl, by rw [HE.out, List.drop_of_length_le (by rw [hla.out]; exact Nat.le_refl _)]; rfl, rfl⟩

theorem containsFunc2_any (A : Option Addr) (n c : Nat) (os : List Mk) (g : Nat) (P1 P2 : Addr) (p : Mk → Bool) (w : World) (ha : Rw Mk.enc w A n c os) (ht : ∀ x ∈ os, Calls Tryd.prog g #[.slice x.a x.n x.c, .pointer (some P1), .pointer (some P2)] w (fun e w' => e = .returned (.bool (p x)) ∧ w = w')) (hcf : ∀ args w, (callFunc g args).run Tryd.prog w = .ok (.enter g args) w) :
    Calls Tryd.prog 35 #[.slice A n c, .func (.func g) #[] #[.pointer (some P1), .pointer (some P2)]] w (fun e w' => e = .returned (.bool (os.any p)) ∧ w = w') := by
  have H1 := Lib.hid (indexFunc2_any A n c os g P1 P2 p w ha ht hcf)
  clear ha ht hcf
  go_enter Tryd.func35, Tryd.ntmps35
  go_wp2_with fail
  refine H1.out.mono ?_
  rintro e w1 ⟨z, rfl, hz, rfl⟩
  clear H1
  by_cases h0 : 0 ≤ z
  · rw [decide_eq_true h0] at hz
    have HZ := Lib.hid hz
    clear hz
    go_wp2
    go_ret
    exact ⟨by rw [← HZ.out]; rfl, rfl⟩
  · rw [decide_eq_false h0] at hz
    have HZ := Lib.hid hz
    clear hz
    go_wp2
    go_ret
    exact ⟨by rw [← HZ.out]; simp; omega, rfl⟩

theorem enterLong (args : Array Value) (w : World) : (callFunc 34 args).run Tryd.prog w = .ok (.enter 34 args) w := by go_simp
theorem enterFit (args : Array Value) (w : World) : (callFunc 58 args).run Tryd.prog w = .ok (.enter 58 args) w := by go_simp

/-- What onsetTest's function has captured. -/
structure Tst (w : World) (Bp Bh : Nat) (ls : List Lt) (os : List Mk) : Prop where
  ons : ∃ A n c, w.cell? ⟨Bp, 0, none⟩ = some (.slice A n c) ∧ Ons w A n c os
  has : ∃ Bc Bm k D, w.cell? ⟨Bh, 0, none⟩ = some (.func (.func 56) #[] #[.pointer (some ⟨Bc, 0, none⟩)]) ∧ w.cell? ⟨Bc, 0, none⟩ = some (.map (some Bm)) ∧ ClsIn w Bm k D ls
theorem Tst.aft {w w' : World} {Bp Bh : Nat} {ls : List Lt} {os : List Mk} (h : Tst w Bp Bh ls os) (a : Aft w w') : Tst w' Bp Bh ls os := by
  obtain ⟨⟨A, n, c, h1, h2⟩, Bc, Bm, k, D, h3, h4, h5⟩ := h
  exact ⟨⟨A, n, c, a.cell h1, h2.aft a⟩, Bc, Bm, k, D, a.cell h3, a.cell h4, h5.aft a⟩

theorem any_masks (ls : List Lt) (os : List Mk) (rs : List Int) : os.any (fun x => fitB ls x.ms rs) = (masks os).any (fun ms => fitB ls ms rs) := by
  unfold masks
  rw [List.any_map]
  rfl

set_option maxRecDepth 100000 in
set_option maxHeartbeats 1600000 in
theorem on_any (B : Option Addr) (m d : Nat) (rs : List Int) (Bp Bh : Nat) (ls : List Lt) (os : List Mk) (w : World) (hb : Rr w B m d rs) (hd : d ≤ 9223372036854775807) (ht : Tst w Bp Bh ls os) (hwf : ∀ r ∈ rs, (Lit.int .i32 r).wf = true) :
    Calls Tryd.prog 57 #[.slice B m d, .pointer (some ⟨Bp, 0, none⟩), .pointer (some ⟨Bh, 0, none⟩)] w (BoolPost w (onB ls (masks os) rs)) := by
  have hbm := hb.le
  have hlen := Lib.hid hb.len
  have AL : Aft w (w.alloc (.cells #[.slice B m d] 40)) := (Aft.refl w).alloc _
  obtain ⟨⟨A, n, c, c1, h2⟩, Bc, Bm, k, D, c3, c4, h5⟩ := ht.aft AL
  have c5 := cell_one_new w (.slice B m d) 40 0 _ rfl
  simp only [Addr.add] at c5
  by_cases h0 : m = 0
  · subst h0
    go_enter Tryd.func57, Tryd.ntmps57
    go_wp2
    go_ret
    exact ⟨by unfold onB; rw [hlen.out]; rfl, AL⟩
  · have h0' : ¬ (m : Int) = 0 := by omega
    have hz : ((m : Int) == 0) = false := by simp; omega
    have H1 := Lib.hid (containsFunc2_any A n c os 58 ⟨w.heap.size, 0, none⟩ ⟨Bh, 0, none⟩ (fun x => fitB ls x.ms rs) _ h2.row (fun x hx => fit_any x.a x.n x.c x.ms B m d rs w.heap.size Bh Bc Bm k D ls _ (h2.each x hx) (hb.aft AL) hd (by simp) c3 c4 h5 hwf) enterFit)
    clear hb ht h2 h5 hwf
    go_enter Tryd.func57, Tryd.ntmps57
    go_wp2_with fail
    refine H1.out.mono ?_
    rintro e w1 ⟨rfl, rfl⟩
    have HA := Lib.hid (any_masks ls os rs)
    generalize (os.any fun x => fitB ls x.ms rs) = q at *
    go_wp2
    go_ret
    exact ⟨by unfold onB; rw [hlen.out, decide_eq_false h0, ← HA.out]; first | rfl | (simp; done) | (simp; omega), AL⟩

def TstPost (w : World) (ls : List Lt) (os : List Mk) (e : Ending) (w' : World) : Prop := ∃ Bp Bh, e = .returned (.func (.func 57) #[] #[.pointer (some ⟨Bp, 0, none⟩), .pointer (some ⟨Bh, 0, none⟩)]) ∧ Tst w' Bp Bh ls os ∧ Aft w w'

theorem three_cells (w : World) (x y z : Value) (t : TypeId) : (w.alloc (.cells #[x, y, z] t)).cell? ⟨w.heap.size, 0, none⟩ = some x ∧ (w.alloc (.cells #[x, y, z] t)).cell? ⟨w.heap.size, 1, none⟩ = some y ∧ (w.alloc (.cells #[x, y, z] t)).cell? ⟨w.heap.size, 2, none⟩ = some z := by
  refine ⟨?_, ?_, ?_⟩ <;> simp

set_option maxRecDepth 100000 in
set_option maxHeartbeats 1600000 in
theorem onsetTest_any (A : Option Addr) (n c : Nat) (ls : List Lt) (B : Option Addr) (m d : Nat) (os : List Mk) (L R : Int) (w : World) (ha : Ll w A n c ls) (hb : Ons w B m d os) :
    Calls Tryd.prog 40 #[.slice A n c, pV B m d L R] w (TstPost w ls os) := by
  have AL : Aft w (w.alloc (.cells #[.slice B m d, .int .i64 L, .int .i64 R] 24)) := (Aft.refl w).alloc _
  have tc := three_cells w (.slice B m d) (.int .i64 L) (.int .i64 R) 24
  have H1 := Lib.hid (classesOf_any A n c ls _ (ha.aft AL))
  go_enter Tryd.func40, Tryd.ntmps40
  go_wp2_with fail
  refine H1.out.mono ?_
  rintro e w1 ⟨Bm, k, D, rfl, hm, A1⟩
  have HM := Lib.hid hm
  have HB := Lib.hid (hb.aft AL)
  clear hm H1 hb ha
  have cB := cell_one_new w1 (.map (some Bm)) 55 0 _ rfl
  have cH := cell_one_new (w1.alloc (.cells #[.map (some Bm)] 55)) (.func (.func 56) #[] #[.pointer (some ⟨w1.heap.size, 0, none⟩)]) 88 0 _ rfl
  have A2 : Aft w1 (w1.alloc (.cells #[.map (some Bm)] 55)) := (Aft.refl w1).alloc _
  have A3 : Aft (w1.alloc (.cells #[.map (some Bm)] 55)) ((w1.alloc (.cells #[.map (some Bm)] 55)).alloc (.cells #[.func (.func 56) #[] #[.pointer (some ⟨w1.heap.size, 0, none⟩)]] 88)) := (Aft.refl _).alloc _
  go_wp2
  go_ret
  refine ⟨w.heap.size, w1.heap.size + 1, by first | rfl | simp, ⟨⟨B, m, d, A3.cell (A2.cell (A1.cell tc.1)), ((HB.out.aft A1).aft A2).aft A3⟩, w1.heap.size, Bm, k, D, ?_, A3.cell ?_, (HM.out.aft A2).aft A3⟩, ((AL.trans A1).trans A2).trans A3⟩
  · rw [← World.size_alloc w1 (.cells #[.map (some Bm)] 55)]; exact cH
  · exact cB

set_option maxRecDepth 100000 in
set_option maxHeartbeats 1600000 in
theorem onset_any (A : Option Addr) (n c : Nat) (ls : List Lt) (B : Option Addr) (m d : Nat) (os : List Mk) (L R : Int) (s : ByteArray) (w : World) (ha : Ll w A n c ls) (hb : Ons w B m d os) (hs : s.size ≤ 1000000) :
    Calls Tryd.prog 21 #[.slice A n c, pV B m d L R, .string s] w (BoolPost w (onB ls (masks os) (runesOf s))) := by
  have AL : Aft w (w.alloc (.cells #[.slice B m d, .int .i64 L, .int .i64 R] 24)) := (Aft.refl w).alloc _
  have tc := three_cells w (.slice B m d) (.int .i64 L) (.int .i64 R) 24
  have H1 := Lib.hid (onsetTest_any A n c ls B m d os L R _ (ha.aft AL) (hb.aft AL))
  have hcv := conv_run s (by omega)
  clear ha hb
  go_enter Tryd.func21, Tryd.ntmps21
  go_wp2_with fail
  refine H1.out.mono ?_
  rintro e w1 ⟨Bp, Bh, rfl, ht, A1⟩
  have A2 := conv_aft s w1
  have H2 := Lib.hid (on_any _ _ _ (runesOf s) Bp Bh ls os _ (conv_rr s w1) (conv_cap s w1 hs) (ht.aft A2) (runes_wf s _ _))
  clear ht H1
  go_wp2_with fail
  refine H2.out.mono ?_
  rintro e w2 ⟨rfl, A3⟩
  go_wp2
  go_ret
  exact ⟨rfl, ((AL.trans A1).trans A2).trans A3⟩
end Go.Proofs.YtfjfgjncmliadaaDoor
