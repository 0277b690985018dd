/-
  remainders, where numbers has its contract. Conditions: as the theorem says.
-/
import Derived.Test.YtdehghmpfkhljaaDoorNumKeep7
namespace Go.Proofs.YtdehghmpfkhljaaDoor
open Go.RowKit
open NumPlain

/-- A fresh row of numbers. -/
def FrPost (w : World) (l : List Int) (e : Ending) (w' : World) : Prop :=
  (∃ (X : Option Addr) (n c : Nat), e = .returned (.slice X n c) ∧ Rw vI w' X n c l ∧ ∀ b o m, X = some ⟨b, o, m⟩ → w.heap.size ≤ b) ∧ Aft w w'
theorem FrPost.from_ {w w1 : World} {l : List Int} {e : Ending} {w' : World} (h : FrPost w1 l e w') (a : Aft w w1) : FrPost w l e w' := by
  obtain ⟨⟨X, n, c, he, hr, hf⟩, h2⟩ := h
  exact ⟨⟨X, n, c, he, hr, fun b o m e => Nat.le_trans a.size (hf b o m e)⟩, a.trans h2⟩
theorem headD_len (x : Nm) (l : List BA) (h : 1 ≤ l.length) : (headD x l 1).length = 1 := by unfold headD; split <;> simp <;> omega
/-- What the tokens beside a head stand for. -/
def remP (x : Nm) (N : List BA → List Int) (toks : List BA) : List Int :=
  if toks.length = 0 then [0] else if x.jo.size = 0 then N toks else if (headD x toks 1).getD 0 ByteArray.empty = x.jo then N (restD x toks 1) else []

set_option maxRecDepth 100000 in
set_option maxHeartbeats 1600000 in
theorem remainders_any (x : Nm) (Bs Bw : Nat) (A : Option Addr) (n c : Nat) (toks : List BA) (ix : Nat) (w : World) (N : List BA → List Int) (ht : Rw sV w A n c toks)
    (hN : ∀ A' n' c' toks' w', Aft w w' → Rw sV w' A' n' c' toks' → Calls Tryd.prog 41 #[rV x Bs Bw, .slice A' n' c', .int .i64 (ix : Int)] w' (FrPost w' (N toks'))) :
    Calls Tryd.prog 72 #[rV x Bs Bw, .slice A n c, .int .i64 (ix : Int)] w (FrPost w (remP x N toks)) := by
  have hl := ht.len
  have hle := ht.le
  have hcm := ht.cmax
  have AL : Aft w (w.alloc (.cells (rC x Bs Bw) 60)) := (Aft.refl w).alloc _
  obtain ⟨c0, c1, c2, c3, c4, c5, c6, c7, c8⟩ := Rb.new w x Bs Bw 60
  have hem := empty_iff x.jo
  by_cases h0 : n = 0
  · have HV := Lib.hid (show remP x N toks = [0] by unfold remP; exact if_pos (by omega))
    subst h0
    clear ht hN
    go_enter Tryd.func72, Tryd.ntmps72
    go_wp2
    go_ret
    refine ⟨⟨_, _, _, rfl, ?_, ?_⟩, AL.alloc _⟩
    · rw [HV.out]
      exact ⟨rfl, by omega, by omega, fun e => (by cases e), fun i u hi => by
        match i, hi with
        | 0, hi => simp at hi; subst hi; exact ⟨_, 0, rfl, by simp⟩
        | i + 1, hi => simp at hi⟩
    · rintro b o m e; cases e; simp
  · have hn0 : ¬ (n : Int) = 0 := by omega
    by_cases hj : x.jo.size = 0
    · have HV := Lib.hid (show remP x N toks = N toks by unfold remP; rw [if_neg (by omega), if_pos hj])
      rw [decide_eq_true hj] at hem
      have HC := Lib.hid (hN A n c toks _ AL (ht.aft AL))
      clear ht hN hj
      go_enter Tryd.func72, Tryd.ntmps72
      go_wp2_with fail
      refine HC.out.mono ?_
      rintro e w1 ⟨⟨X, n1, d1, rfl, h1⟩, h2⟩
      have H1 := Lib.hid h1
      have H2 := Lib.hid h2
      clear h1 h2 HC
      go_wp2
      go_ret
      rw [HV.out]
      exact FrPost.from_ ⟨⟨X, n1, d1, rfl, H1.out⟩, H2.out⟩ AL
    · rw [decide_eq_false hj] at hem
      obtain ⟨b, off, t0, rfl, ht0, g0⟩ := ht.at_ (k := 0) (by omega)
      have HD := Lib.hid (divide_any x Bs Bw b off n c toks 1 _ (by omega) (by omega) (ht.aft AL))
      have hd1 := headD_len x toks (by omega)
      have HN := Lib.hid hN
      by_cases hq : (headD x toks 1).getD 0 ByteArray.empty = x.jo
      · have HV := Lib.hid (show remP x N toks = N (restD x toks 1) by unfold remP; rw [if_neg (by omega), if_neg hj, if_pos hq])
        have HQ := Lib.hid hq
        clear ht hN hj ht0 g0 hq
        go_enter Tryd.func72, Tryd.ntmps72
        go_wp2_with fail
        refine HD.out.mono ?_
        rintro e w1 ⟨⟨X1, n1, e1, X2, n2, e2, rfl, r1, r2, _⟩, A1⟩
        obtain rfl : n1 = 1 := by rw [← r1.len]; exact hd1
        obtain ⟨b1, o1, s, rfl, hs, gs⟩ := r1.at_ (k := 0) (by omega)
        have gs' : w1.cell? ⟨b1, o1, none⟩ = some (.string s) := gs
        clear gs
        have hsj : s = x.jo := by rw [← HQ.out]; simp [List.getD, hs]
        have q1 : (s.toList == x.jo.toList) = true := by rw [hsj]; simp
        have q1' : (s.toList != x.jo.toList) = false := by rw [hsj]; simp
        have m4 := A1.cell c4
        have m0 := A1.cell c0
        have m1 := A1.cell c1
        have m2 := A1.cell c2
        have m3 := A1.cell c3
        have m5 := A1.cell c5
        have m6 := A1.cell c6
        have m7 := A1.cell c7
        have m8 := A1.cell c8
        have HC := Lib.hid (fun w' (a : Aft w1 w') => HN.out X2 n2 e2 (restD x toks 1) w' ((AL.trans A1).trans a) (r2.aft a))
        have he1 := r1.le
        have hem1 := r1.cmax
        have HA := Lib.hid (AL.trans A1)
        clear HD HN r1 r2 hs hsj A1 AL c0 c1 c2 c3 c4 c5 c6 c7 c8
        go_wp2
        go_quiet (fail)
        go_wp2_with fail
        refine (HC.out _ ((Aft.refl _).drewN _)).mono ?_
        rintro e w2 ⟨⟨X, n3, d1, rfl, h1⟩, h2⟩
        have H1 := Lib.hid h1
        have H2 := Lib.hid h2
        clear h1 h2 HC
        go_wp2
        go_ret
        rw [HV.out]
        exact FrPost.from_ ⟨⟨X, n3, d1, rfl, H1.out⟩, H2.out⟩ (HA.out.drewN _)
      · have HV := Lib.hid (show remP x N toks = [] by unfold remP; rw [if_neg (by omega), if_neg hj, if_neg hq])
        have HQ := Lib.hid hq
        clear ht hN hj ht0 g0 hq
        go_enter Tryd.func72, Tryd.ntmps72
        go_wp2_with fail
        refine HD.out.mono ?_
        rintro e w1 ⟨⟨X1, n1, e1, X2, n2, e2, rfl, r1, r2, _⟩, A1⟩
        obtain rfl : n1 = 1 := by rw [← r1.len]; exact hd1
        obtain ⟨b1, o1, s, rfl, hs, gs⟩ := r1.at_ (k := 0) (by omega)
        have gs' : w1.cell? ⟨b1, o1, none⟩ = some (.string s) := gs
        clear gs
        have hsj : ¬ s = x.jo := by intro h; apply HQ.out; rw [← h]; simp [List.getD, hs]
        have q1 : (s.toList == x.jo.toList) = false := by rw [toList_beq]; simp [hsj]
        have q1' : (s.toList != x.jo.toList) = true := by unfold bne; rw [q1]; rfl
        have m4 := A1.cell c4
        have he1 := r1.le
        have hem1 := r1.cmax
        have HA := Lib.hid (AL.trans A1)
        clear HD HN r1 r2 hs hsj A1 AL c0 c1 c2 c3 c4 c5 c6 c7 c8
        go_wp2
        go_quiet (fail)
        go_wp2
        go_ret
        rw [HV.out]
        exact ⟨⟨none, 0, 0, rfl, Rw.nil, fun b o m e => (by cases e)⟩, HA.out.drewN _⟩
end Go.Proofs.YtdehghmpfkhljaaDoor
