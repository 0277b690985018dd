/-
  speller, Words, countUpTo and Longest. Conditions: the system lies where it says, its strings are no longer than a string can be; the tables of unicode/utf8 lie as their texts say.
-/
import Derived.Test.YtdehghmpfkhljaaDoorNumAll
import Derived.Test.YtdehghmpfkhljaaDoorNumTok
namespace Go.Proofs.YtdehghmpfkhljaaDoor
open Go.RowKit
open NumPlain

theorem pow4 {x : Nm} (hx : Ok x) {n : Nat} (hn : n ≤ 9999) : n < bs x ^ (3 + 1) := by
  have h : (10000 : Nat) ≤ bs x ^ 4 := by rcases hx.bs with h | h <;> rw [h] <;> decide
  show n < bs x ^ 4
  omega
theorem wcall_any (x : Nm) (hx : Ok x) (n : Nat) (hn : n ≤ 9999) (Bs Bw : Nat) (w : World) (h : Spl w Bs Bw x) :
    Calls Tryd.prog 50 #[.int .i64 (n : Int), .pointer (some ⟨Bs, 0, none⟩), .pointer (some ⟨Bw, 0, none⟩)] w (SlPost w (wordsB x n)) :=
  low_any x hx 3 (Nat.le_refl _) n (pow4 hx hn) Bs Bw w h

def SpPost (w : World) (x : Nm) (e : Ending) (w' : World) : Prop := ∃ Bs Bw : Nat, e = .returned (.func (.func 50) #[] #[.pointer (some ⟨Bs, 0, none⟩), .pointer (some ⟨Bw, 0, none⟩)]) ∧ Spl w' Bs Bw x ∧ Aft w w'
set_option maxHeartbeats 800000 in
theorem speller_any (x : Nm) (w : World) (hw : Nw w x) : Calls Tryd.prog 36 #[nV x] w (SpPost w x) := by
  have hb := Bx.new w x 24
  have AL : Aft w (w.alloc (.cells (nC x) 24)) := (Aft.refl w).alloc _
  go_enter Tryd.func36, Tryd.ntmps36
  go_wp2
  go_ret
  have A2 : Aft (w.alloc (.cells (nC x) 24)) ((w.alloc (.cells (nC x) 24)).alloc (.cells #[.func (.func 50) #[] #[.pointer (some ⟨w.heap.size, 0, none⟩), .pointer (some ⟨w.heap.size + 1, 0, none⟩)]] 53)) := (Aft.refl _).alloc _
  exact ⟨w.heap.size, w.heap.size + 1, rfl, ⟨hb.aft A2, by simp, (hw.aft AL).aft A2⟩, AL.trans A2⟩

def SlErr (w : World) (l : List BA) (err : Int) (e : Ending) (w' : World) : Prop := (∃ (X : Option Addr) (nx cx : Nat), e = .returned (.tuple #[.slice X nx cx, .int .i64 err]) ∧ Rw sV w' X nx cx l) ∧ Aft w w'
/-- What Words returns. -/
def wordsV (x : Nm) (n : Int) : List BA × Int := if validB x && decide (0 ≤ n) then if n ≤ 9999 then (wordsB x n.toNat, 0) else ([], 2) else ([], 1)

set_option maxHeartbeats 1600000 in
theorem words_any (x : Nm) (n : Int) (w : World) (hT : Tabs w) (hw : Nw w x) (hz : Sz x) :
    Calls Tryd.prog 18 #[nV x, .int .i64 n] w (SlErr w (wordsV x n).1 (wordsV x n).2) := by
  have AL : Aft w (w.alloc (.cells (nC x) 24)) := (Aft.refl w).alloc _
  obtain ⟨c0, c1, c2, c3, c4, c5, c6, c7⟩ := Bx.new w x 24
  have H1 := Lib.hid (valid_any x _ (tabs_aft hT AL) (hw.aft AL) hz)
  have HW := Lib.hid hw
  clear hT hw
  cases hv : validB x
  · rw [hv] at H1
    have HV := Lib.hid (show wordsV x n = ([], 1) by unfold wordsV; rw [hv]; rfl)
    clear hv
    go_enter Tryd.func18, Tryd.ntmps18
    go_wp2_with fail
    refine H1.out.mono ?_
    rintro e w1 ⟨rfl, N1⟩
    clear H1
    go_wp2
    go_ret2
    exact ⟨by rw [HV.out]; exact ⟨none, 0, 0, rfl, Rw.nil⟩, AL.trans N1⟩
  · rw [hv] at H1
    by_cases h0 : n < 0
    · have HV := Lib.hid (show wordsV x n = ([], 1) by unfold wordsV; rw [decide_eq_false (by omega), Bool.and_false]; rfl)
      clear hv
      go_enter Tryd.func18, Tryd.ntmps18
      go_wp2_with fail
      refine H1.out.mono ?_
      rintro e w1 ⟨rfl, N1⟩
      clear H1
      go_wp2
      go_ret2
      exact ⟨by rw [HV.out]; exact ⟨none, 0, 0, rfl, Rw.nil⟩, AL.trans N1⟩
    · by_cases h1 : 9999 < n
      · have hn1 : ¬ n ≤ 9999 := by omega
        have HV := Lib.hid (show wordsV x n = ([], 2) by unfold wordsV; rw [hv, decide_eq_true (by omega)]; exact if_neg hn1)
        clear hv hn1
        go_enter Tryd.func18, Tryd.ntmps18
        go_wp2_with fail
        refine H1.out.mono ?_
        rintro e w1 ⟨rfl, N1⟩
        clear H1
        go_wp2
        go_ret2
        exact ⟨by rw [HV.out]; exact ⟨none, 0, 0, rfl, Rw.nil⟩, AL.trans N1⟩
      · obtain ⟨k, rfl⟩ : ∃ k : Nat, n = (k : Int) := ⟨n.toNat, by omega⟩
        have hk9 : k ≤ 9999 := by omega
        have hle : ((k : Nat) : Int) ≤ 9999 := by omega
        have HV := Lib.hid (show wordsV x (k : Int) = (wordsB x k, 0) by unfold wordsV; rw [hv, decide_eq_true (by omega)]; exact if_pos hle)
        have HC := Lib.hid (fun Bs Bw w0 h => wcall_any x (ok_of hv) k hk9 Bs Bw w0 h)
        have hcf := enterW
        clear hv
        go_enter Tryd.func18, Tryd.ntmps18
        go_wp2_with fail
        refine H1.out.mono ?_
        rintro e w1 ⟨rfl, N1⟩
        clear H1
        have d0 := N1.cell c0
        have d1 := N1.cell c1
        have d2 := N1.cell c2
        have d3 := N1.cell c3
        have d4 := N1.cell c4
        have d5 := N1.cell c5
        have d6 := N1.cell c6
        have d7 := N1.cell c7
        have A1 := AL.trans N1
        go_wp2_with fail
        refine (speller_any x w1 (HW.out.aft A1)).mono ?_
        rintro e w2 ⟨Bs, Bw, rfl, hs, N2⟩
        have HS := Lib.hid hs
        clear hs
        go_wp2_with fail
        refine (HC.out Bs Bw w2 HS.out).mono ?_
        rintro e w3 ⟨⟨X, nx, cx, rfl, hr⟩, N3⟩
        have HR := Lib.hid hr
        clear hr
        go_wp2
        go_ret2
        exact ⟨by rw [HV.out]; exact ⟨X, nx, cx, rfl, HR.out⟩, (A1.trans N2).trans N3⟩
end Go.Proofs.YtdehghmpfkhljaaDoor
