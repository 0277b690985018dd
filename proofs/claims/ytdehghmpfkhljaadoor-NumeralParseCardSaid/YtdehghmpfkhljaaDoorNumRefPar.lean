/-
  The reference's Parse. Conditions: the system lies where it says, its strings are no longer than a string can be; the tables of unicode/utf8 lie as their texts say.
-/
import Derived.Test.YtdehghmpfkhljaaDoorNumRefW
import Derived.Test.YtdehghmpfkhljaaDoorNumRefV
namespace Go.Proofs.YtdehghmpfkhljaaDoor
open Go.RowKit
open NumPlain

/-- The numbers below k with these words. -/
def scanL (x : Nm) (toks : List BA) (k : Nat) : List Int := ((List.range k).filter (fun n => decide (wordsB x n = toks))).map Int.ofNat
theorem scan_yes {x : Nm} {toks : List BA} {k : Nat} (h : wordsB x k = toks) : scanL x toks (k + 1) = scanL x toks k ++ [(k : Int)] := by
  unfold scanL
  rw [List.range_succ, List.filter_append, List.map_append, List.filter_cons, if_pos (by simpa using h)]
  rfl
theorem scan_no {x : Nm} {toks : List BA} {k : Nat} (h : ¬ wordsB x k = toks) : scanL x toks (k + 1) = scanL x toks k := by
  unfold scanL
  rw [List.range_succ, List.filter_append, List.map_append, List.filter_cons, if_neg (by simpa using h)]
  simp
theorem infoI_parts : ∃ i, Tryd.prog.info? 3 = some i ∧ i.zero = some (.int .i64 0) ∧ i.size = 1 ∧ i.bytes = 8 := by
  have h := Tryd.infoI
  cases hi : Tryd.prog.info? 3 with
  | none => rw [hi] at h; cases h
  | some i =>
    rw [hi] at h
    have h2 : (i.zero, i.size, i.bytes) = (some (.int .i64 0), 1, 8) := by simpa using h
    exact ⟨i, rfl, congrArg Prod.fst h2, congrArg (fun p => p.2.1) h2, congrArg (fun p => p.2.2) h2⟩

set_option maxRecDepth 100000 in
set_option maxHeartbeats 3200000 in
theorem refParse_any (x : Nm) (A : Option Addr) (n c : Nat) (toks : List BA) (w : World) (hT : Tabs w) (hw : Nw w x) (hz : Sz x) (hb : (Lit.int .i64 x.base).wf = true) (ht : Rw sV w A n c toks) :
    Calls Tryd.prog 26 #[nV x, .slice A n c] w (InPost w (parseV x toks)) := by
  obtain ⟨i0, hi, hz0, hz1, hz2⟩ := infoI_parts
  have AL : Aft w (w.alloc (.cells (nC x) 24)) := (Aft.refl w).alloc _
  have A1 : Aft (w.alloc (.cells (nC x) 24)) ((w.alloc (.cells (nC x) 24)).alloc (.cells #[] 3)) := (Aft.refl _).alloc _
  have hB : (w.alloc (.cells (nC x) 24)).heap.size = w.heap.size + 1 := by simp only [World.size_alloc]
  have own0 : ((w.alloc (.cells (nC x) 24)).alloc (.cells #[] 3)).ownsRow (w.alloc (.cells (nC x) 24)).heap.size 3 1 (.slice (some ⟨(w.alloc (.cells (nC x) 24)).heap.size, 0, none⟩) 0 0) 0 [] := World.ownsRow_lit _ #[] 0 (Nat.le_refl _) (by unfold maxLen; omega) rfl
  rw [hB] at own0
  have HO0 := Lib.hid own0
  have HA1 := Lib.hid A1
  have HAL := Lib.hid AL
  have HBX := Lib.hid (Bx.new w x 24)
  have HT := Lib.hid (tabs_aft hT AL)
  have HW := Lib.hid (hw.aft AL)
  have HTK := Lib.hid (ht.aft AL)
  have HZ := Lib.hid hz
  have HVC := Lib.hid (fun w' (a : Aft (w.alloc (.cells (nC x) 24)) w') => refValid_any x w' (tabs_aft HT.out a) (HW.out.aft a) hz hb)
  have HSZ := Lib.hid hB
  clear own0 A1 hT ht hb AL hB
  cases hv : validB x
  · have HV := Lib.hid (show parseV x toks = [] by unfold parseV; rw [hv]; rfl)
    rw [hv] at HVC
    clear hv hw
    go_enter Tryd.func26, Tryd.ntmps26
    go_wp2
    go_loopw [5, 6] (fun v i wr => i = .int .i64 0 ∧ v = .slice (some ⟨w.heap.size + 1, 0, none⟩) 0 0 ∧ wr = ((w.alloc (.cells (nC x) 24)).alloc (.cells #[] 3))) (fun _ _ _ => 0)
    case atStart => exact ⟨rfl, rfl, rfl⟩
    case round =>
      obtain ⟨rfl, rfl, rfl⟩ := hrel
      obtain ⟨c0, c1, c2, c3, c4, c5, c6, c7⟩ := HBX.out.aft HA1.out
      go_wp2_with fail
      refine (HVC.out _ HA1.out).mono ?_
      rintro e w1 ⟨rfl, N1⟩
      go_wp2
      go_ret
      exact ⟨⟨_, _, _, rfl, by rw [HV.out]; exact Rw.empty _⟩, HAL.out.trans (HA1.out.trans N1)⟩
  · have hL := len_of hw hv
    have HV := Lib.hid (show parseV x toks = scanL x toks 10000 by unfold parseV; rw [hv, if_pos rfl]; exact numL_scan hL toks)
    have HRW := Lib.hid (fun k (hk : k ≤ 9999) => refWords_any x hL k (pow4 hL.ok hk))
    rw [hv] at HVC
    clear hv hw hL
    go_enter Tryd.func26, Tryd.ntmps26
    go_wp2
    go_loopw [5, 6] (fun v i wr => ∃ (k q : Nat) (l : List Int), k ≤ 10000 ∧ q ≤ k ∧ i = .int .i64 (k : Nat) ∧ l = scanL x toks k ∧ l.length = q ∧ wr.ownsRow (w.heap.size + 1) 3 1 v q (l.map vI) ∧ Aft (w.alloc (.cells (nC x) 24)) wr) (fun _ i _ => 10000 - (intOf i).toNat)
    case atStart => exact ⟨0, 0, [], by omega, Nat.le_refl _, rfl, rfl, rfl, HO0.out, HA1.out⟩
    case round =>
      obtain ⟨k, q, l, hk, hq, rfl, hl, hlq, own, haf⟩ := hrel
      have HL := Lib.hid hl
      have HLQ := Lib.hid hlq
      have HO := Lib.hid own
      have HF := Lib.hid haf
      have hsz := haf.size
      rw [HSZ.out] at hsz
      clear hl hlq own haf
      by_cases hlt : k ≤ 9999
      · have hki : (k : Int) ≤ 9999 := by omega
        have HRK := Lib.hid (HRW.out k hlt)
        obtain ⟨c0, c1, c2, c3, c4, c5, c6, c7⟩ := HBX.out.aft HF.out
        go_wp2_with fail
        refine (HVC.out _ HF.out).mono ?_
        rintro e w1 ⟨rfl, N1⟩
        have D1 := HF.out.trans N1
        clear c0 c1 c2 c3 c4 c5 c6 c7
        obtain ⟨c0, c1, c2, c3, c4, c5, c6, c7⟩ := HBX.out.aft D1
        go_wp2_with fail
        refine (HRK.out w1 (HW.out.aft D1)).mono ?_
        rintro e w2 ⟨⟨X2, n2, q2, rfl, r2⟩, N2⟩
        have R2 := Lib.hid r2
        have D2 := D1.trans N2
        clear r2 c0 c1 c2 c3 c4 c5 c6 c7
        by_cases heq : wordsB x k = toks
        · have HTX := Lib.hid (show Calls Tryd.prog 23 #[.slice X2 n2 q2, .slice A n c] w2 (BoolPost w2 true) by
            have h := texts_any X2 n2 q2 (wordsB x k) A n c toks w2 R2.out (HTK.out.aft D2)
            rw [decide_eq_true heq] at h
            exact h)
          have HN := Lib.hid (show l ++ [(k : Int)] = scanL x toks (k + 1) by rw [scan_yes heq, HL.out])
          clear heq
          go_wp2_with fail
          refine HTX.out.mono ?_
          rintro e w3 ⟨rfl, N3⟩
          have D3 := D2.trans N3
          have N13 := N1.trans (N2.trans N3)
          have HO3 := Lib.hid (row_aft HO.out N13)
          have hs3 := N13.size
          have hlen : (l.map vI).length = q := by rw [List.length_map]; exact HLQ.out
          have HLL := Lib.hid hlen
          clear hlen
          go_wp2_with (at_builtin; refine wpList_append_own _ rfl _ _ 35 rfl (w.heap.size + 1) 3 i0 _ 1 8 Tryd.underlying35 hi hz0 hz1 hz2 rfl (by decide) _ _ _ rfl (HO3.out.alloc _) ⟨w3.heap.size, 0, none⟩ 1 1 [.int .i64 (k : Int)] rfl rfl (one_val _ _ _ _ rfl) (oneI (k : Int)) (by unfold maxLen; omega) (by omega) (by first | omega | (simp; omega)) ?_; intro v' w4 own4 grow4 _; have D4 := Lib.hid ((D3.alloc _).grown grow4 (fun j e => by have h := (HO3.out.lt j e).1; have e2 := HSZ.out; omega)); have O4 := Lib.hid own4; clear own4 grow4)
          have hrel : ∀ V, v' = V → ∃ (k_1 q_1 : Nat) (l_1 : List Int), k_1 ≤ 10000 ∧ q_1 ≤ k_1 ∧ Value.int .i64 ((k : Int) + 1) = .int .i64 (k_1 : Nat) ∧ l_1 = scanL x toks k_1 ∧ l_1.length = q_1 ∧ w4.ownsRow (w.heap.size + 1) 3 1 V q_1 (l_1.map vI) ∧ Aft (w.alloc (.cells (nC x) 24)) w4 := by
            rintro V rfl
            exact ⟨k + 1, q + 1, l ++ [(k : Int)], by omega, by omega, by simp, HN.out, by rw [List.length_append, HLQ.out]; rfl, by rw [List.map_append]; exact O4.out, D4.out⟩
          go_roundw
          case rel => exact hrel _ rfl
          case measure => simp [intOf]; omega
        · have HTX := Lib.hid (show Calls Tryd.prog 23 #[.slice X2 n2 q2, .slice A n c] w2 (BoolPost w2 false) by
            have h := texts_any X2 n2 q2 (wordsB x k) A n c toks w2 R2.out (HTK.out.aft D2)
            rw [decide_eq_false heq] at h
            exact h)
          have HN := Lib.hid (show l = scanL x toks (k + 1) by rw [scan_no heq, HL.out])
          clear heq
          go_wp2_with fail
          refine HTX.out.mono ?_
          rintro e w3 ⟨rfl, N3⟩
          have D3 := Lib.hid (D2.trans N3)
          have O3 := Lib.hid (row_aft HO.out (N1.trans (N2.trans N3)))
          clear D1 D2 N1 N2 N3
          go_wp2
          go_roundw
          case rel => exact ⟨k + 1, q, l, by omega, by omega, by go_num, HN.out, HLQ.out, O3.out, D3.out⟩
          case measure => simp [intOf]; omega
      · have hk1 : k = 10000 := by omega
        have hki : ¬ (k : Int) ≤ 9999 := by omega
        have HE := Lib.hid (show l = scanL x toks 10000 by rw [HL.out, hk1])
        obtain ⟨X, cx, rfl, hX⟩ := Rw.of_row HO.out HLQ.out
        have HX := Lib.hid hX
        clear hk1 hX
        go_wp2
        go_ret
        exact ⟨⟨_, _, _, rfl, by rw [HV.out, ← HE.out]; exact HX.out⟩, HAL.out.trans HF.out⟩
end Go.Proofs.YtdehghmpfkhljaaDoor
