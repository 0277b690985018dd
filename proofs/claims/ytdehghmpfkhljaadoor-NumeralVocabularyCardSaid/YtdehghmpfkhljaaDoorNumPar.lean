/-
  newReader and Parse. Conditions: the system lies where it says, its strings are no longer than a string can be; the tables of unicode/utf8 lie as their texts say.
-/
import Derived.Test.YtdehghmpfkhljaaDoorNumNums
namespace Go.Proofs.YtdehghmpfkhljaaDoor
open Go.RowKit
open NumPlain

theorem speller2_any (x : Nm) (w : World) (hw : Nw w x) : Calls Tryd.prog 36 #[nV x] w (fun e w' => ∃ Bs Bw : Nat, e = .returned (.func (.func 50) #[] #[.pointer (some ⟨Bs, 0, none⟩), .pointer (some ⟨Bw, 0, none⟩)]) ∧ Spl w' Bs Bw x ∧ Aft w w' ∧ w.heap.size ≤ Bs ∧ w.heap.size ≤ Bw) := by
  have hb := Bx.new w x 24
  have AL : Aft w (w.alloc (.cells (nC x) 24)) := (Aft.refl w).alloc _
  go_enter Tryd.func36, Tryd.ntmps36
  go_wp2
  go_ret
  have A2 : Aft (w.alloc (.cells (nC x) 24)) ((w.alloc (.cells (nC x) 24)).alloc (.cells #[.func (.func 50) #[] #[.pointer (some ⟨w.heap.size, 0, none⟩), .pointer (some ⟨w.heap.size + 1, 0, none⟩)]] 53)) := (Aft.refl _).alloc _
  exact ⟨w.heap.size, w.heap.size + 1, rfl, ⟨hb.aft A2, by simp, (hw.aft AL).aft A2⟩, AL.trans A2, Nat.le_refl _, by omega⟩

/-- Nine cells of a block, all of it. -/
def Box9 (w : World) (p : Nat) (V0 : Array Value) : Prop := w.heap[p]? = some (.cells V0 60 (0, 0))
theorem Box9.frozen {w : World} {p : Nat} {V0 : Array Value} (h : Box9 w p V0) (j : Nat) : w.frozen? ⟨p, j, none⟩ = false := by
  have h' : w.heap[p]? = _ := h
  simp [World.frozen?, h']
theorem Box9.aft {w w' : World} {p : Nat} {V0 : Array Value} (h : Box9 w p V0) (k : Aft w w') : Box9 w' p V0 := (Below.block k p (Array.getElem?_eq_some_iff.1 h).1).trans h
theorem Box9.cell {w : World} {p : Nat} {V0 : Array Value} (h : Box9 w p V0) (j : Nat) (v : Value) (hv : V0[j]? = some v) : w.cell? ⟨p, j, none⟩ = some v := by
  have h' : w.heap[p]? = _ := h
  simp [World.cell?, h', hv]
abbrev set9 (w : World) (p : Nat) (v0 v1 v2 v3 v4 v5 v6 v7 v8 : Value) : World := (((((((((((((((((w.setCell ⟨p, 0, none⟩ v0)).setCell ⟨p, 1, none⟩ v1)).setCell ⟨p, 2, none⟩ v2)).setCell ⟨p, 3, none⟩ v3)).setCell ⟨p, 4, none⟩ v4)).setCell ⟨p, 5, none⟩ v5)).setCell ⟨p, 6, none⟩ v6)).setCell ⟨p, 7, none⟩ v7)).setCell ⟨p, 8, none⟩ v8)
theorem Box9.set9 {w : World} {p : Nat} {o0 o1 o2 o3 o4 o5 o6 o7 o8 : Value} (h : Box9 w p #[o0, o1, o2, o3, o4, o5, o6, o7, o8]) (v0 v1 v2 v3 v4 v5 v6 v7 v8 : Value) : Box9 (set9 w p v0 v1 v2 v3 v4 v5 v6 v7 v8) p #[v0, v1, v2, v3, v4, v5, v6, v7, v8] := by
  have h0 : (w.setCell ⟨p, 0, none⟩ v0).heap[p]? = some (.cells #[v0, o1, o2, o3, o4, o5, o6, o7, o8] 60 (0, 0)) := heap_setCell_same _ _ _ _ _ _ h
  have h1 : ((w.setCell ⟨p, 0, none⟩ v0).setCell ⟨p, 1, none⟩ v1).heap[p]? = some (.cells #[v0, v1, o2, o3, o4, o5, o6, o7, o8] 60 (0, 0)) := heap_setCell_same _ _ _ _ _ _ h0
  have h2 : (((w.setCell ⟨p, 0, none⟩ v0).setCell ⟨p, 1, none⟩ v1).setCell ⟨p, 2, none⟩ v2).heap[p]? = some (.cells #[v0, v1, v2, o3, o4, o5, o6, o7, o8] 60 (0, 0)) := heap_setCell_same _ _ _ _ _ _ h1
  have h3 : ((((w.setCell ⟨p, 0, none⟩ v0).setCell ⟨p, 1, none⟩ v1).setCell ⟨p, 2, none⟩ v2).setCell ⟨p, 3, none⟩ v3).heap[p]? = some (.cells #[v0, v1, v2, v3, o4, o5, o6, o7, o8] 60 (0, 0)) := heap_setCell_same _ _ _ _ _ _ h2
  have h4 : (((((w.setCell ⟨p, 0, none⟩ v0).setCell ⟨p, 1, none⟩ v1).setCell ⟨p, 2, none⟩ v2).setCell ⟨p, 3, none⟩ v3).setCell ⟨p, 4, none⟩ v4).heap[p]? = some (.cells #[v0, v1, v2, v3, v4, o5, o6, o7, o8] 60 (0, 0)) := heap_setCell_same _ _ _ _ _ _ h3
  have h5 : ((((((w.setCell ⟨p, 0, none⟩ v0).setCell ⟨p, 1, none⟩ v1).setCell ⟨p, 2, none⟩ v2).setCell ⟨p, 3, none⟩ v3).setCell ⟨p, 4, none⟩ v4).setCell ⟨p, 5, none⟩ v5).heap[p]? = some (.cells #[v0, v1, v2, v3, v4, v5, o6, o7, o8] 60 (0, 0)) := heap_setCell_same _ _ _ _ _ _ h4
  have h6 : (((((((w.setCell ⟨p, 0, none⟩ v0).setCell ⟨p, 1, none⟩ v1).setCell ⟨p, 2, none⟩ v2).setCell ⟨p, 3, none⟩ v3).setCell ⟨p, 4, none⟩ v4).setCell ⟨p, 5, none⟩ v5).setCell ⟨p, 6, none⟩ v6).heap[p]? = some (.cells #[v0, v1, v2, v3, v4, v5, v6, o7, o8] 60 (0, 0)) := heap_setCell_same _ _ _ _ _ _ h5
  have h7 : ((((((((w.setCell ⟨p, 0, none⟩ v0).setCell ⟨p, 1, none⟩ v1).setCell ⟨p, 2, none⟩ v2).setCell ⟨p, 3, none⟩ v3).setCell ⟨p, 4, none⟩ v4).setCell ⟨p, 5, none⟩ v5).setCell ⟨p, 6, none⟩ v6).setCell ⟨p, 7, none⟩ v7).heap[p]? = some (.cells #[v0, v1, v2, v3, v4, v5, v6, v7, o8] 60 (0, 0)) := heap_setCell_same _ _ _ _ _ _ h6
  have h8 : (((((((((w.setCell ⟨p, 0, none⟩ v0).setCell ⟨p, 1, none⟩ v1).setCell ⟨p, 2, none⟩ v2).setCell ⟨p, 3, none⟩ v3).setCell ⟨p, 4, none⟩ v4).setCell ⟨p, 5, none⟩ v5).setCell ⟨p, 6, none⟩ v6).setCell ⟨p, 7, none⟩ v7).setCell ⟨p, 8, none⟩ v8).heap[p]? = some (.cells #[v0, v1, v2, v3, v4, v5, v6, v7, v8] 60 (0, 0)) := heap_setCell_same _ _ _ _ _ _ h7
  exact h8
theorem Aft.set9 {a w : World} (h : Aft a w) {p : Nat} (hp : a.heap.size ≤ p) (v0 v1 v2 v3 v4 v5 v6 v7 v8 : Value) : Aft a (set9 w p v0 v1 v2 v3 v4 v5 v6 v7 v8) :=
  ((((((((h.setCell (p := ⟨p, 0, none⟩) hp v0).setCell (p := ⟨p, 1, none⟩) hp v1).setCell (p := ⟨p, 2, none⟩) hp v2).setCell (p := ⟨p, 3, none⟩) hp v3).setCell (p := ⟨p, 4, none⟩) hp v4).setCell (p := ⟨p, 5, none⟩) hp v5).setCell (p := ⟨p, 6, none⟩) hp v6).setCell (p := ⟨p, 7, none⟩) hp v7).setCell (p := ⟨p, 8, none⟩) hp v8
theorem block_set9 (w : World) {p j : Nat} (hj : j ≠ p) (v0 v1 v2 v3 v4 v5 v6 v7 v8 : Value) : (set9 w p v0 v1 v2 v3 v4 v5 v6 v7 v8).heap[j]? = w.heap[j]? :=
  (heap_setCell_other _ ⟨p, 8, none⟩ j v8 hj).trans ((heap_setCell_other _ ⟨p, 7, none⟩ j v7 hj).trans ((heap_setCell_other _ ⟨p, 6, none⟩ j v6 hj).trans ((heap_setCell_other _ ⟨p, 5, none⟩ j v5 hj).trans ((heap_setCell_other _ ⟨p, 4, none⟩ j v4 hj).trans ((heap_setCell_other _ ⟨p, 3, none⟩ j v3 hj).trans ((heap_setCell_other _ ⟨p, 2, none⟩ j v2 hj).trans ((heap_setCell_other _ ⟨p, 1, none⟩ j v1 hj).trans (heap_setCell_other _ ⟨p, 0, none⟩ j v0 hj))))))))
theorem cell_set9 (w : World) {p : Nat} {a : Addr} {u : Value} (hj : a.block ≠ p) (v0 v1 v2 v3 v4 v5 v6 v7 v8 : Value) (h : w.cell? a = some u) : (set9 w p v0 v1 v2 v3 v4 v5 v6 v7 v8).cell? a = some u :=
  (World.cell?_of_block (w := w) (w' := set9 w p v0 v1 v2 v3 v4 v5 v6 v7 v8) (a := a) (block_set9 w hj _ _ _ _ _ _ _ _ _)).trans h
theorem Spl.set9 {w : World} {Bs Bw : Nat} {x : Nm} (h : Spl w Bs Bw x) {p : Nat} (h1 : Bs ≠ p) (h2 : Bw ≠ p) (v0 v1 v2 v3 v4 v5 v6 v7 v8 : Value) (hw : Nw (set9 w p v0 v1 v2 v3 v4 v5 v6 v7 v8) x) : Spl (set9 w p v0 v1 v2 v3 v4 v5 v6 v7 v8) Bs Bw x := by
  obtain ⟨⟨c0, c1, c2, c3, c4, c5, c6, c7⟩, hf, _⟩ := h
  exact ⟨⟨cell_set9 w (a := ⟨Bs, 0, none⟩) h1 _ _ _ _ _ _ _ _ _ c0, cell_set9 w (a := ⟨Bs, 1, none⟩) h1 _ _ _ _ _ _ _ _ _ c1, cell_set9 w (a := ⟨Bs, 2, none⟩) h1 _ _ _ _ _ _ _ _ _ c2, cell_set9 w (a := ⟨Bs, 3, none⟩) h1 _ _ _ _ _ _ _ _ _ c3, cell_set9 w (a := ⟨Bs, 4, none⟩) h1 _ _ _ _ _ _ _ _ _ c4, cell_set9 w (a := ⟨Bs, 5, none⟩) h1 _ _ _ _ _ _ _ _ _ c5, cell_set9 w (a := ⟨Bs, 6, none⟩) h1 _ _ _ _ _ _ _ _ _ c6, cell_set9 w (a := ⟨Bs, 7, none⟩) h1 _ _ _ _ _ _ _ _ _ c7⟩, cell_set9 w (a := ⟨Bw, 0, none⟩) h2 _ _ _ _ _ _ _ _ _ hf, hw⟩

set_option maxRecDepth 100000 in
set_option maxHeartbeats 1600000 in
theorem newReader_any (x : Nm) (w : World) (hw : Nw w x) : Calls Tryd.prog 40 #[nV x] w (fun e w' => ∃ Bs Bw : Nat, e = .returned (rV x Bs Bw) ∧ Spl w' Bs Bw x ∧ Aft w w') := by
  have AL : Aft w ((w.alloc (.cells (nC x) 24)).alloc (.cells #[.int .i64 0, .slice none 0 0, .slice none 0 0, .bool false, .string ⟨#[]⟩, .int .i64 0, .string ⟨#[]⟩, .bool false, .nilFunc] 60)) := ((Aft.refl w).alloc _).alloc _
  obtain ⟨c0, c1, c2, c3, c4, c5, c6, c7⟩ := (Bx.new w x 24).aft (show Aft _ ((w.alloc (.cells (nC x) 24)).alloc (.cells #[.int .i64 0, .slice none 0 0, .slice none 0 0, .bool false, .string ⟨#[]⟩, .int .i64 0, .string ⟨#[]⟩, .bool false, .nilFunc] 60)) from (Aft.refl _).alloc _)
  have hsz : (w.alloc (.cells (nC x) 24)).heap.size = w.heap.size + 1 := by simp only [World.size_alloc]
  have hszW : ((w.alloc (.cells (nC x) 24)).alloc (.cells #[.int .i64 0, .slice none 0 0, .slice none 0 0, .bool false, .string ⟨#[]⟩, .int .i64 0, .string ⟨#[]⟩, .bool false, .nilFunc] 60)).heap.size = w.heap.size + 2 := by simp only [World.size_alloc]
  have HB := Lib.hid (show Box9 ((w.alloc (.cells (nC x) 24)).alloc (.cells #[.int .i64 0, .slice none 0 0, .slice none 0 0, .bool false, .string ⟨#[]⟩, .int .i64 0, .string ⟨#[]⟩, .bool false, .nilFunc] 60)) (w.heap.size + 1) #[.int .i64 0, .slice none 0 0, .slice none 0 0, .bool false, .string ⟨#[]⟩, .int .i64 0, .string ⟨#[]⟩, .bool false, .nilFunc] by rw [← hsz]; exact World.alloc_heap_new _ _)
  have HC := Lib.hid (fun w' (a : Aft ((w.alloc (.cells (nC x) 24)).alloc (.cells #[.int .i64 0, .slice none 0 0, .slice none 0 0, .bool false, .string ⟨#[]⟩, .int .i64 0, .string ⟨#[]⟩, .bool false, .nilFunc] 60)) w') => speller2_any x w' (hw.aft (AL.trans a)))
  have HSZ := Lib.hid hszW
  have HW := Lib.hid hw
  have HAL := Lib.hid AL
  clear AL hw hsz hszW
  go_enter Tryd.func40, Tryd.ntmps40
  go_wp2
  go_region_with ((go_at_call 36; refine (HC.out _ (Below.drew (Aft.refl _))).mono ?_; rintro e' w9 ⟨Bs, Bw, rfl, hs, N8, l1, l2⟩; have N9 := Aft.trans (Below.drew (Aft.refl _)) N8; have d0 := N9.cell c0; have d1 := N9.cell c1; have d2 := N9.cell c2; have d3 := N9.cell c3; have d4 := N9.cell c4; have d5 := N9.cell c5; have d6 := N9.cell c6; have d7 := N9.cell c7; have H9 := Lib.hid hs; have A9 := Lib.hid (HAL.out.trans N9); have HB9 := Lib.hid (HB.out.aft N9); have L9 := Lib.hid (show Bs ≠ w.heap.size + 1 ∧ Bw ≠ w.heap.size + 1 by (have e := HSZ.out; have l1' : w.heap.size + 2 ≤ Bs := Nat.le_trans (Nat.le_of_eq e.symm) l1; have l2' : w.heap.size + 2 ≤ Bw := Nat.le_trans (Nat.le_of_eq e.symm) l2; omega)); have g0 := HB9.out.frozen 0; have g1 := HB9.out.frozen 1; have g2 := HB9.out.frozen 2; have g3 := HB9.out.frozen 3; have g4 := HB9.out.frozen 4; have g5 := HB9.out.frozen 5; have g6 := HB9.out.frozen 6; have g7 := HB9.out.frozen 7; have g8 := HB9.out.frozen 8; have z0 := HB9.out.cell 0 _ rfl; have z1 := HB9.out.cell 1 _ rfl; have z2 := HB9.out.cell 2 _ rfl; have z3 := HB9.out.cell 3 _ rfl; have z4 := HB9.out.cell 4 _ rfl; have z5 := HB9.out.cell 5 _ rfl; have z6 := HB9.out.cell 6 _ rfl; have z7 := HB9.out.cell 7 _ rfl; have z8 := HB9.out.cell 8 _ rfl; clear N8 hs l1 l2))
  all_goals
    go_wp2
    have hq := HB9.out.set9 (.int .i64 x.base) (.slice x.da x.dn x.dc) (.slice x.pa x.pn x.pc) (.bool x.sf) (.string x.jo) (.int .i64 x.sub) (.string x.le) (.bool x.om) (.func (.func 50) #[] #[.pointer (some ⟨Bs, 0, none⟩), .pointer (some ⟨Bw, 0, none⟩)])
    have r0 := hq.cell 0 _ rfl
    have r1 := hq.cell 1 _ rfl
    have r2 := hq.cell 2 _ rfl
    have r3 := hq.cell 3 _ rfl
    have r4 := hq.cell 4 _ rfl
    have r5 := hq.cell 5 _ rfl
    have r6 := hq.cell 6 _ rfl
    have r7 := hq.cell 7 _ rfl
    have r8 := hq.cell 8 _ rfl
    refine bodyPost_ret (v := rV x Bs Bw) (by simp [results, go_sem, r0, r1, r2, r3, r4, r5, r6, r7, r8]) rfl ?_
    exact ⟨Bs, Bw, rfl, H9.out.set9 L9.out.1 L9.out.2 _ _ _ _ _ _ _ _ _ (HW.out.aft (A9.out.set9 (by omega) _ _ _ _ _ _ _ _ _)), A9.out.set9 (by omega) _ _ _ _ _ _ _ _ _⟩

theorem len_of {x : Nm} {w : World} (hw : Nw w x) (hv : validB x = true) : Len x := by
  have hx := ok_of hv
  refine ⟨hx, ?_, ?_⟩
  · rw [hw.rd.len]; have h1 := hx.dn; have h2 := hx.base; unfold bs; omega
  · rw [hw.rp.len]; exact hx.pn
/-- What Parse returns. -/
def parseV (x : Nm) (toks : List BA) : List Int := if validB x then numL x 3 toks else []
def InPost (w : World) (l : List Int) (e : Ending) (w' : World) : Prop := (∃ (X : Option Addr) (n c : Nat), e = .returned (.slice X n c) ∧ Rw vI w' X n c l) ∧ Aft w w'

set_option maxRecDepth 100000 in
set_option maxHeartbeats 1600000 in
theorem parse_any (x : Nm) (A : Option Addr) (n c : Nat) (toks : List BA) (w : World) (hT : Tabs w) (hw : Nw w x) (hz : Sz x) (ht : Rw sV w A n c toks) :
    Calls Tryd.prog 21 #[nV x, .slice A n c] w (InPost w (parseV x toks)) := by
  have AL : Aft w (w.alloc (.cells (nC x) 24)) := (Aft.refl w).alloc _
  obtain ⟨c0, c1, c2, c3, c4, c5, c6, c7⟩ := Bx.new w x 24
  have H1 := Lib.hid (valid_any x _ (tabs_aft hT AL) (hw.aft AL) hz)
  have HW := Lib.hid hw
  have HT := Lib.hid ht
  clear hT hw ht
  cases hv : validB x
  · rw [hv] at H1
    have HV := Lib.hid (show parseV x toks = [] by unfold parseV; rw [hv]; rfl)
    clear hv
    go_enter Tryd.func21, Tryd.ntmps21
    go_wp2_with fail
    refine H1.out.mono ?_
    rintro e w1 ⟨rfl, N1⟩
    clear H1
    go_wp2
    go_ret
    exact ⟨⟨none, 0, 0, rfl, by rw [HV.out]; exact Rw.nil⟩, AL.trans N1⟩
  · rw [hv] at H1
    have HV := Lib.hid (show parseV x toks = numL x 3 toks by unfold parseV; rw [hv]; rfl)
    have HL := Lib.hid (len_of HW.out hv)
    clear hv
    go_enter Tryd.func21, Tryd.ntmps21
    go_wp2_with fail
    refine H1.out.mono ?_
    rintro e w1 ⟨rfl, N1⟩
    clear H1
    have d0 := N1.cell c0
    have d1 := N1.cell c1
    have d2 := N1.cell c2
    have d3 := N1.cell c3
    have d4 := N1.cell c4
    have d5 := N1.cell c5
    have d6 := N1.cell c6
    have d7 := N1.cell c7
    have A1 := AL.trans N1
    clear c0 c1 c2 c3 c4 c5 c6 c7
    go_wp2_with fail
    refine (newReader_any x w1 (HW.out.aft A1)).mono ?_
    rintro e w2 ⟨Bs, Bw, rfl, hs, N2⟩
    have HN := Lib.hid (show Calls Tryd.prog 41 #[rV x Bs Bw, .slice A n c, .int .i64 3] w2 (FrPost w2 (numL x 3 toks)) from numbers_any x HL.out Bs Bw 3 (Nat.le_refl _) A n c toks w2 hs (HT.out.aft (A1.trans N2)))
    clear hs d0 d1 d2 d3 d4 d5 d6 d7
    go_wp2_with fail
    refine HN.out.mono ?_
    rintro e w3 ⟨⟨X, nx, cx, rfl, hr, hf⟩, N3⟩
    have HR := Lib.hid hr
    clear hr hf HN
    go_wp2
    go_ret
    exact ⟨⟨X, nx, cx, rfl, by rw [HV.out]; exact HR.out⟩, (A1.trans N2).trans N3⟩
end Go.Proofs.YtdehghmpfkhljaaDoor
