/-
  The reference's Vocabulary. Conditions: the system is valid and lies where it says; its strings are no longer than a string can be; the tables of unicode/utf8 lie as their texts say.
-/
import Derived.Test.YtdehghmpfkhljaaDoorNumVoc
import Derived.Test.YtdehghmpfkhljaaDoorNumRefV
import Derived.Test.YtdehghmpfkhljaaDoorNumLawS
import Derived.Test.YtdehghmpfkhljaaDoorRegion
import Derived.Deep.CutRange
import Derived.Deep.CutBlock
namespace Go.Proofs.YtdehghmpfkhljaaDoor.Voc
open Go.RowKit
open NumPlain

def vocA (x : Nm) : List BA := (x.ds ++ x.ps) ++ [x.jo, x.le]
theorem vocA_col (x : Nm) : (vocA x).filter neB = vocL x := by unfold vocA vocL col; simp
theorem rw2_new (W : World) (a b : BA) (t : TypeId) : Rw sV (W.alloc (.cells #[.string a, .string b] t)) (some ⟨W.heap.size, 0, none⟩) 2 2 [a, b] := lit_rw (enc := sV) W t [a, b] (by simp)
def Inv (x : Nm) (q : Nat) (L : List BA) : Prop := AscS L ∧ ∀ t, t ∈ L ↔ t ∈ ((vocA x).take q).filter neB
theorem inv_zero (x : Nm) : Inv x 0 [] := ⟨List.Pairwise.nil, fun t => by simp⟩
theorem inv_there {x : Nm} {q : Nat} {L : List BA} {s : BA} (hs : (vocA x)[q]? = some s) (h : Inv x q L) (hm : neB s = false ∨ s ∈ L) : Inv x (q + 1) L := by
  refine ⟨h.1, fun t => ?_⟩
  rw [take_next hs, List.filter_append, List.mem_append, h.2 t]
  rcases hm with e | e
  · rw [List.filter_cons_of_neg (by rw [e]; decide), List.filter_nil]; simp
  · have h2 := (h.2 s).1 e
    constructor
    · exact .inl
    · rintro (k | k)
      · exact k
      · rw [List.mem_filter, List.mem_singleton] at k
        rw [k.1]; exact h2
theorem inv_ins {x : Nm} {q k : Nat} {L : List BA} {s : BA} (hs : (vocA x)[q]? = some s) (h : Inv x q L) (hn : neB s = true) (h1 : ∀ i t, i < k → L[i]? = some t → lt t s = true) (h2 : ∀ t, L[k]? = some t → lt s t = true) : Inv x (q + 1) (L.take k ++ [s] ++ L.drop k) := by
  refine ⟨ins_asc h.1 h1 h2, fun t => ?_⟩
  rw [ins_mem, h.2 t, take_next hs, List.filter_append, List.mem_append, List.filter_cons_of_pos hn, List.filter_nil, List.mem_singleton]
theorem inv_end {x : Nm} {n : Nat} {L : List BA} (h : Inv x n L) (hn : (vocA x).length = n) : L = vocS x := by
  refine ascS_ext h.1 (vocS_asc x) (fun f => ?_)
  rw [h.2 f, vocS_mem, ← vocA_col, List.take_of_length_le (by omega)]
theorem drop_rw {w : World} {g o m c k : Nat} {L : List BA} (h : Rw sV w (some ⟨g, o, none⟩) m c L) (hk : k ≤ m) : Rw sV w (some ⟨g, o + k, none⟩) (m - k) (c - k) (L.drop k) := by
  have h0 := h.len
  have h1 := h.le
  have h2 := h.cmax
  refine ⟨by simp; omega, by omega, by omega, fun e => (by cases e), fun i u hi => ⟨g, o + k, rfl, ?_⟩⟩
  rw [List.getElem?_drop] at hi
  obtain ⟨b', o', e, g2⟩ := h.cells _ u hi
  cases e
  rw [Nat.add_assoc]
  exact g2
theorem rw2_of {a W : World} {p r : BA} (_ : Aft a (W.alloc (.cells #[.string p, .string r] 9))) : Rw sV (W.alloc (.cells #[.string p, .string r] 9)) (some ⟨W.heap.size, 0, none⟩) 2 2 [p, r] := rw2_new W p r _
theorem rw2_ofD {a W : World} {p r : BA} (_ : Aft a (W.alloc (.cells #[.string p, .string r] 9)).drew) : Rw sV (W.alloc (.cells #[.string p, .string r] 9)).drew (some ⟨W.heap.size, 0, none⟩) 2 2 [p, r] := (rw2_new W p r _).aft (Below.drew (Aft.refl _))
theorem rw_nil_at (w : World) (g : Nat) : Rw sV w (some ⟨g, 0, none⟩) 0 0 ([] : List BA) := ⟨rfl, Nat.le_refl _, by omega, fun e => (by cases e), fun i u h => by simp at h⟩

set_option maxRecDepth 100000 in
set_option maxHeartbeats 6400000 in
theorem refVoc_any (x : Nm) (hv : validB x = true) (w : World) (hT : Tabs w) (hw : Nw w x) (hz : Sz x) (hzb : (Lit.int .i64 x.base).wf = true) :
    Calls Tryd.prog 28 #[nV x] w (SlPost w (vocS x)) := by
  have AL : Aft w (w.alloc (.cells (nC x) 24)) := (Aft.refl w).alloc _
  have AM : Aft w ((w.alloc (.cells (nC x) 24)).alloc (.cells #[] 9)) := AL.alloc _
  have AN : Aft (w.alloc (.cells (nC x) 24)) ((w.alloc (.cells (nC x) 24)).alloc (.cells #[] 9)) := (Aft.refl _).alloc _
  have HBX := Lib.hid ((Bx.new w x 24).aft AN)
  have h1 := refValid_any x _ (tabs_aft hT AM) (hw.aft AM) hz hzb
  rw [hv] at h1
  have H1 := Lib.hid h1
  have hx := ok_of hv
  have hlen : x.dn ≤ 20 ∧ x.pn = 3 := by
    have := hx.dn; have := hx.pn; have := hx.base
    omega
  have HLN := Lib.hid hlen
  have HW := Lib.hid (hw.aft AM)
  have HAM := Lib.hid AM
  have hdl := hw.rd.len
  have hpl := hw.rp.len
  have HAL := Lib.hid (show (vocA x).length = x.dn + 3 + 2 by unfold vocA; simp; omega)
  obtain ⟨i0, hi0, hz0, hz1', hz2'⟩ := infoS_parts
  clear hT hw h1 hv hx hlen hz hzb AL AN AM hdl hpl
  go_enter Tryd.func28, Tryd.ntmps28
  obtain ⟨c0, c1, c2, c3, c4, c5, c6, c7⟩ := HBX.out
  go_wp2_with fail
  refine H1.out.mono ?_
  rintro e w1 ⟨rfl, N1⟩
  have HN1 := Lib.hid N1
  clear H1 N1 c0 c1 c2 c3 c4 c5 c6 c7
  go_wp2
  go_upto_region 4 with fail
  go_cut [4] from 12 to 22 (fun v wx => ∃ (X : Option Addr) (n q : Nat), v = .slice X n q ∧ Rw sV wx X n q (vocA x) ∧ Aft ((w.alloc (.cells (nC x) 24)).alloc (.cells #[] 9)) wx)
  case first =>
    have HSX := Lib.hid (show ∀ w', Aft ((w.alloc (.cells (nC x) 24)).alloc (.cells #[] 9)) w' → (fun w' => Aft ((w.alloc (.cells (nC x) 24)).alloc (.cells #[] 9)) w' ∧ w'.cell? ⟨w.heap.size, 0, none⟩ = some (.int .i64 x.base) ∧ w'.cell? ⟨w.heap.size, 1, none⟩ = some (.slice x.da x.dn x.dc) ∧ w'.cell? ⟨w.heap.size, 2, none⟩ = some (.slice x.pa x.pn x.pc) ∧ w'.cell? ⟨w.heap.size, 3, none⟩ = some (.bool x.sf) ∧ w'.cell? ⟨w.heap.size, 4, none⟩ = some (.string x.jo) ∧ w'.cell? ⟨w.heap.size, 5, none⟩ = some (.int .i64 x.sub) ∧ w'.cell? ⟨w.heap.size, 6, none⟩ = some (.string x.le) ∧ w'.cell? ⟨w.heap.size, 7, none⟩ = some (.bool x.om)) w' from fun w' a => ⟨a, (HBX.out.aft a).c0, (HBX.out.aft a).c1, (HBX.out.aft a).c2, (HBX.out.aft a).c3, (HBX.out.aft a).c4, (HBX.out.aft a).c5, (HBX.out.aft a).c6, (HBX.out.aft a).c7⟩)
    refine wp_region_held_drew (S := fun w' => Aft ((w.alloc (.cells (nC x) 24)).alloc (.cells #[] 9)) w' ∧ w'.cell? ⟨w.heap.size, 0, none⟩ = some (.int .i64 x.base) ∧ w'.cell? ⟨w.heap.size, 1, none⟩ = some (.slice x.da x.dn x.dc) ∧ w'.cell? ⟨w.heap.size, 2, none⟩ = some (.slice x.pa x.pn x.pc) ∧ w'.cell? ⟨w.heap.size, 3, none⟩ = some (.bool x.sf) ∧ w'.cell? ⟨w.heap.size, 4, none⟩ = some (.string x.jo) ∧ w'.cell? ⟨w.heap.size, 5, none⟩ = some (.int .i64 x.sub) ∧ w'.cell? ⟨w.heap.size, 6, none⟩ = some (.string x.le) ∧ w'.cell? ⟨w.heap.size, 7, none⟩ = some (.bool x.om)) (by kernel_rfl) (HSX.out _ (by first | exact HN1.out | exact Aft.drewN HN1.out _ | exact Below.drew HN1.out)) (fun hHeld => ?_)
    refine take_on (i := 0) (v := ?v9001) rfl (by kernel_rfl) (by kernel_rfl) (by kernel_rfl) (fun _ _ _ h => h) (by rfl) (by assumption) ?y9001 ?_
    case y9001 => (intro w hSw; (try dsimp only at hSw); go_simp; (try with_reducible rfl))
    try simp only [Act.put, List.setIfInBounds_toArray, List.set_cons_zero, List.set_cons_succ]
    refine take_on (i := 1) (v := ?v9002) rfl (by kernel_rfl) (by kernel_rfl) (by kernel_rfl) (fun _ _ _ h => h) (by rfl) (by assumption) ?y9002 ?_
    case y9002 => (intro w hSw; (try dsimp only at hSw); go_simp; (try with_reducible rfl))
    try simp only [Act.put, List.setIfInBounds_toArray, List.set_cons_zero, List.set_cons_succ]
    refine take_on (i := 2) (v := ?v9003) rfl (by kernel_rfl) (by kernel_rfl) (by kernel_rfl) (fun _ _ _ h => h) (by rfl) (by assumption) ?y9003 ?_
    case y9003 => (intro w hSw; (try dsimp only at hSw); go_simp; (try with_reducible rfl))
    try simp only [Act.put, List.setIfInBounds_toArray, List.set_cons_zero, List.set_cons_succ]
    refine take_on (i := 3) (v := ?v9004) rfl (by kernel_rfl) (by kernel_rfl) (by kernel_rfl) (fun _ _ _ h => h) (by rfl) (by assumption) ?y9004 ?_
    case y9004 => (intro w hSw; (try dsimp only at hSw); go_simp; (try with_reducible rfl))
    try simp only [Act.put, List.setIfInBounds_toArray, List.set_cons_zero, List.set_cons_succ]
    refine take_on (i := 5) (v := ?v9005) rfl (by kernel_rfl) (by kernel_rfl) (by kernel_rfl) (fun _ _ _ h => h) (by rfl) (by assumption) ?y9005 ?_
    case y9005 => (intro w hSw; (try dsimp only at hSw); go_simp; (try with_reducible rfl))
    try simp only [Act.put, List.setIfInBounds_toArray, List.set_cons_zero, List.set_cons_succ]
    refine take_on (i := 6) (v := ?v9006) rfl (by kernel_rfl) (by kernel_rfl) (by kernel_rfl) (fun _ _ _ h => h) (by rfl) (by assumption) ?y9006 ?_
    case y9006 => (intro w hSw; (try dsimp only at hSw); go_simp; (try with_reducible rfl))
    try simp only [Act.put, List.setIfInBounds_toArray, List.set_cons_zero, List.set_cons_succ]
    refine take_on (i := 7) (v := ?v9007) rfl (by kernel_rfl) (by kernel_rfl) (by kernel_rfl) (fun _ _ _ h => h) (by rfl) (by assumption) ?y9007 ?_
    case y9007 => (intro w hSw; (try dsimp only at hSw); go_simp; (try with_reducible rfl))
    try simp only [Act.put, List.setIfInBounds_toArray, List.set_cons_zero, List.set_cons_succ]
    refine take_on (i := 8) (v := ?v9008) rfl (by kernel_rfl) (by kernel_rfl) (by kernel_rfl) (fun _ _ _ h => h) (by rfl) (by assumption) ?y9008 ?_
    case y9008 => (intro w hSw; (try dsimp only at hSw); go_simp; (try with_reducible rfl))
    try simp only [Act.put, List.setIfInBounds_toArray, List.set_cons_zero, List.set_cons_succ]
    refine two_readyN (i := 4) (j := 9) rfl rfl (by kernel_rfl) (by rfl) (by rfl) (fun K hK => ?_) (fun K hK => ?_)
    · have hA9009 := Lib.hid hHeld.1
      go_simp
      go_at_call 45
      refine (join_any x.da x.dn x.dc x.ds x.pa x.pn x.pc x.ps _ (HW.out.rd.aft (by first | exact hA9009.out | exact Below.drew hA9009.out)) (HW.out.rp.aft (by first | exact hA9009.out | exact Below.drew hA9009.out)) (by have := HLN.out; omega)).mono ?_
      rintro e' w9009 ⟨⟨X1, n1, q1, rfl, r1⟩, M9009⟩
      have C9009 := Lib.hid (show Aft ((w.alloc (.cells (nC x) 24)).alloc (.cells #[] 9)) w9009 from Aft.trans (by first | exact hA9009.out | exact Below.drew hA9009.out) M9009)
      have R1 := Lib.hid (show Rw sV w9009 X1 n1 q1 (x.ds ++ x.ps) from r1)
      have hn1 : n1 ≤ 23 := by have h8 := r1.len; have h7 := HW.out.rd.len; have h6 := HW.out.rp.len; have h5 := HLN.out; simp at h8; omega
      clear r1
      try go_simp
      refine hK.out _ _ (HSX.out _ C9009.out) (fun hHeld => ?_)
      clear hK K
      try simp only [Act.put, List.setIfInBounds_toArray, List.set_cons_zero, List.set_cons_succ]
      refine one_ready (i := 9) rfl (by kernel_rfl) (by rfl) (fun K hK => ?_)
      have hA9010 := Lib.hid hHeld.1
      go_simp
      refine hK.out _ _ (HSX.out _ (by first | exact Aft.alloc hA9010.out _ | exact Aft.alloc (Below.drew hA9010.out) _)) (fun hHeld => ?_)
      clear hK K
      try simp only [Act.put, List.setIfInBounds_toArray, List.set_cons_zero, List.set_cons_succ]
      refine one_ready (i := 10) rfl (by kernel_rfl) (by rfl) (fun K hK => ?_)
      have hA9011 := Lib.hid hHeld.1
      go_simp
      go_at_call 45
      refine (join_any X1 n1 q1 (x.ds ++ x.ps) (some ⟨_, 0, none⟩) 2 2 [x.jo, x.le] _ (R1.out.aft (by first | exact Aft.refl _ | exact Below.drew (Aft.refl _) | exact (Aft.refl _).alloc _ | exact Below.drew ((Aft.refl _).alloc _) | exact Aft.alloc (Below.drew (Aft.refl _)) _ | exact Below.drew (Aft.alloc (Below.drew (Aft.refl _)) _))) (by first | exact rw2_new _ _ _ _ | exact (rw2_new _ _ _ _).aft (Below.drew (Aft.refl _))) (by omega)).mono ?_
      rintro e' w9011 ⟨⟨X, n, q, rfl, r⟩, M9011⟩
      have C9011 := Lib.hid (show Aft ((w.alloc (.cells (nC x) 24)).alloc (.cells #[] 9)) w9011 from Aft.trans (by first | exact hA9011.out | exact Below.drew hA9011.out) M9011)
      have RA := Lib.hid (show Rw sV w9011 X n q (vocA x) from r)
      clear r
      try go_simp
      refine hK.out _ _ (HSX.out _ C9011.out) (fun hHeld => ?_)
      clear hK K
      try simp only [Act.put, List.setIfInBounds_toArray, List.set_cons_zero, List.set_cons_succ]
      refine take_on (i := 11) (v := ?v9012) rfl (by kernel_rfl) (by kernel_rfl) (by kernel_rfl) (fun _ _ _ h => h) (by rfl) (by assumption) ?y9012 ?_
      case y9012 => (intro w hSw; (try dsimp only at hSw); go_simp; (try with_reducible rfl))
      try simp only [Act.put, List.setIfInBounds_toArray, List.set_cons_zero, List.set_cons_succ]
      refine wpAnyH_done (by kernel_rfl) ?_ _
      go_wp2
      go_meet
      exact ⟨_, _, _, rfl, RA.out, hHeld.1⟩
    · have hA9013 := Lib.hid hHeld.1
      go_simp
      refine hK.out _ _ (HSX.out _ (by first | exact Aft.alloc hA9013.out _ | exact Aft.alloc (Below.drew hA9013.out) _)) (fun hHeld => ?_)
      clear hK K
      try simp only [Act.put, List.setIfInBounds_toArray, List.set_cons_zero, List.set_cons_succ]
      first | have hj9 := rw2_of hHeld.1 | have hj9 := rw2_ofD hHeld.1
      have HJ := Lib.hid hj9
      clear hj9
      refine one_ready (i := 4) rfl (by kernel_rfl) (by rfl) (fun K hK => ?_)
      have hA9014 := Lib.hid hHeld.1
      go_simp
      go_at_call 45
      refine (join_any x.da x.dn x.dc x.ds x.pa x.pn x.pc x.ps _ (HW.out.rd.aft (by first | exact hA9014.out | exact Below.drew hA9014.out)) (HW.out.rp.aft (by first | exact hA9014.out | exact Below.drew hA9014.out)) (by have := HLN.out; omega)).mono ?_
      rintro e' w9014 ⟨⟨X1, n1, q1, rfl, r1⟩, M9014⟩
      have C9014 := Lib.hid (show Aft ((w.alloc (.cells (nC x) 24)).alloc (.cells #[] 9)) w9014 from Aft.trans (by first | exact hA9014.out | exact Below.drew hA9014.out) M9014)
      have R1 := Lib.hid (show Rw sV w9014 X1 n1 q1 (x.ds ++ x.ps) from r1)
      have hn1 : n1 ≤ 23 := by have h8 := r1.len; have h7 := HW.out.rd.len; have h6 := HW.out.rp.len; have h5 := HLN.out; simp at h8; omega
      clear r1
      have HJM := Lib.hid (HJ.out.aft (show Aft _ w9014 from by first | exact M9014 | exact Below.trans (Below.drew (Aft.refl _)) M9014 | exact Aft.trans (Below.drew (Aft.refl _)) M9014))
      try go_simp
      refine hK.out _ _ (HSX.out _ C9014.out) (fun hHeld => ?_)
      clear hK K
      try simp only [Act.put, List.setIfInBounds_toArray, List.set_cons_zero, List.set_cons_succ]
      refine one_ready (i := 10) rfl (by kernel_rfl) (by rfl) (fun K hK => ?_)
      have hA9015 := Lib.hid hHeld.1
      go_simp
      go_at_call 45
      refine (join_any X1 n1 q1 (x.ds ++ x.ps) (some ⟨_, 0, none⟩) 2 2 [x.jo, x.le] _ (R1.out.aft (by first | exact Aft.refl _ | exact Below.drew (Aft.refl _) | exact (Aft.refl _).alloc _ | exact Below.drew ((Aft.refl _).alloc _) | exact Aft.alloc (Below.drew (Aft.refl _)) _ | exact Below.drew (Aft.alloc (Below.drew (Aft.refl _)) _))) (HJM.out.aft (by first | exact Aft.refl _ | exact Below.drew (Aft.refl _) | exact (Aft.refl _).alloc _ | exact Below.drew ((Aft.refl _).alloc _) | exact Aft.alloc (Below.drew (Aft.refl _)) _ | exact Below.drew (Aft.alloc (Below.drew (Aft.refl _)) _))) (by omega)).mono ?_
      rintro e' w9015 ⟨⟨X, n, q, rfl, r⟩, M9015⟩
      have C9015 := Lib.hid (show Aft ((w.alloc (.cells (nC x) 24)).alloc (.cells #[] 9)) w9015 from Aft.trans (by first | exact hA9015.out | exact Below.drew hA9015.out) M9015)
      have RA := Lib.hid (show Rw sV w9015 X n q (vocA x) from r)
      clear r
      try go_simp
      refine hK.out _ _ (HSX.out _ C9015.out) (fun hHeld => ?_)
      clear hK K
      try simp only [Act.put, List.setIfInBounds_toArray, List.set_cons_zero, List.set_cons_succ]
      refine take_on (i := 11) (v := ?v9016) rfl (by kernel_rfl) (by kernel_rfl) (by kernel_rfl) (fun _ _ _ h => h) (by rfl) (by assumption) ?y9016 ?_
      case y9016 => (intro w hSw; (try dsimp only at hSw); go_simp; (try with_reducible rfl))
      try simp only [Act.put, List.setIfInBounds_toArray, List.set_cons_zero, List.set_cons_succ]
      refine wpAnyH_done (by kernel_rfl) ?_ _
      go_wp2
      go_meet
      exact ⟨_, _, _, rfl, RA.out, hHeld.1⟩
  case rest =>
  obtain ⟨X, n, q, rfl, hra, ha9⟩ := hcut
  have RA := Lib.hid hra
  have HA9 := Lib.hid ha9
  clear hra ha9
  have hn25 : n ≤ 25 := by have h8 := RA.out.len; have h7 := HAL.out; have h6 := HLN.out; omega
  have HRL := Lib.hid RA.out.len
  go_wp2
  go_loopw [3, 5] (fun v i wr => ∃ (q' g cap m : Nat) (L : List BA), q' ≤ n ∧ i = .int .i64 (q' : Nat) ∧ v = .slice (some ⟨g, 0, none⟩) m cap ∧ m ≤ q' ∧ Rw sV wr (some ⟨g, 0, none⟩) m cap L ∧ Inv x q' L ∧ Aft wc wr) (fun _ i _ => n - (intOf i).toNat)
  case atStart => exact ⟨0, w.heap.size + 1, 0, 0, [], Nat.zero_le _, rfl, rfl, Nat.le_refl _, rw_nil_at _ _, inv_zero x, Aft.refl _⟩
  case round =>
    obtain ⟨q', g, cap, m, L, hq, rfl, rfl, hmq, hr, hinv, haf⟩ := hrel
    have hml := hr.le
    have hcm := hr.cmax
    have hLm := hr.len
    have HR := Lib.hid hr
    have HI := Lib.hid hinv
    have HF := Lib.hid haf
    have HLM := Lib.hid hLm
    clear hr hinv haf hLm
    by_cases hlt : q' < n
    · obtain ⟨b, off, s, hX, hs, g1⟩ := RA.out.at_ hlt
      have hqi : (q' : Int) < (n : Int) := by omega
      have HS := Lib.hid hs
      have c1 := HF.out.cell g1
      dsimp only [sV] at c1
      have hHX := Lib.hid hX
      subst hX
      have hem := empty_iff s
      clear hs g1
      go_wp2
      go_loopw [6] (fun kk w2 => ∃ k : Nat, k ≤ m ∧ kk = .int .i64 (k : Nat) ∧ (∀ j t, j < k → L[j]? = some t → lt t s = true) ∧ Aft wr w2) (fun kk _ => m - (intOf kk).toNat)
      case atStart => exact ⟨0, Nat.zero_le _, rfl, fun j t h => absurd h (by omega), Aft.refl _⟩
      case round =>
        obtain ⟨k, hk, rfl, hlo, haf2⟩ := hrel
        have HLO := Lib.hid hlo
        have HF2 := Lib.hid haf2
        have c2 := haf2.cell c1
        clear hlo haf2
        by_cases hkm : k < m
        · obtain ⟨bo, of, t, hA, ht, g2⟩ := (HR.out.aft HF2.out).at_ hkm
          cases hA
          dsimp only [sV] at g2
          rw [Nat.zero_add] at g2
          have HTT := Lib.hid ht
          clear ht
          have hki : (k : Int) < (m : Int) := by omega
          have hne : ¬ (k : Int) = (m : Int) := by omega
          cases hts : lt t s
          · have hb : Op.bytesLess t.toList s.toList = false := hts
            have HTS := Lib.hid hts
            have hbe := toList_beq t s
            clear hts
            by_cases he : s.size = 0
            · rw [decide_eq_true he] at hem
              have HNB := Lib.hid (show neB s = false by unfold neB; rw [decide_eq_true he]; rfl)
              clear he
              go_wp2
              go_quiet (fail)
              go_wp2
              go_quiet (fail)
              go_wp2
              go_roundw
              case rel => exact ⟨q' + 1, g, cap, m, L, by omega, by go_num, rfl, by omega, HR.out.aft (by first | exact HF2.out | exact Aft.drewN HF2.out _ | exact Below.drew HF2.out | exact Below.drew (Below.drew HF2.out) | exact Below.drew (Aft.drewN HF2.out _) | exact Aft.drewN (Aft.drewN HF2.out _) _), inv_there HS.out HI.out (.inl HNB.out), HF.out.trans (by first | exact HF2.out | exact Aft.drewN HF2.out _ | exact Below.drew HF2.out | exact Below.drew (Below.drew HF2.out) | exact Below.drew (Aft.drewN HF2.out _) | exact Aft.drewN (Aft.drewN HF2.out _) _)⟩
              case measure => simp [intOf]; omega
            · rw [decide_eq_false he] at hem
              have HNB := Lib.hid (show neB s = true by unfold neB; rw [decide_eq_false he]; rfl)
              clear he
              by_cases hte : t = s
              · rw [decide_eq_true hte] at hbe
                have HSL := Lib.hid (show s ∈ L by rw [← hte]; exact List.mem_of_getElem? HTT.out)
                clear hte
                go_wp2
                go_quiet (fail)
                go_wp2
                go_quiet (fail)
                go_wp2
                go_roundw
                case rel => exact ⟨q' + 1, g, cap, m, L, by omega, by go_num, rfl, by omega, HR.out.aft (by first | exact HF2.out | exact Aft.drewN HF2.out _ | exact Below.drew HF2.out | exact Below.drew (Below.drew HF2.out) | exact Below.drew (Aft.drewN HF2.out _) | exact Aft.drewN (Aft.drewN HF2.out _) _), inv_there HS.out HI.out (.inr HSL.out), HF.out.trans (by first | exact HF2.out | exact Aft.drewN HF2.out _ | exact Below.drew HF2.out | exact Below.drew (Below.drew HF2.out) | exact Below.drew (Aft.drewN HF2.out _) | exact Aft.drewN (Aft.drewN HF2.out _) _)⟩
                case measure => simp [intOf]; omega
              · rw [decide_eq_false hte] at hbe
                have HHI := Lib.hid (show ∀ u, L[k]? = some u → lt s u = true from fun u hu => by
                  rw [HTT.out] at hu
                  cases hu
                  cases hst : lt s t
                  · exact absurd (lt_total HTS.out hst) hte
                  · rfl)
                clear hte
                have hcap : ¬ cap = k := by omega
                have hm25 : m ≤ 24 := by omega
                have hkc : (k : Int) ≤ (cap : Int) := by omega
                have hmc : (m : Int) ≤ (cap : Int) := by omega
                have hkmi : (k : Int) ≤ (m : Int) := by omega
                have hkmn : k ≤ m := hk
                have hkcn : k ≤ cap := by omega
                go_wp2
                go_quiet (fail)
                obtain ⟨nqa, hnqa⟩ : ∃ z, z = nq := ⟨_, rfl⟩
                rw [← hnqa]
                clear hnqa
                go_wp2
                go_quiet (fail)
                obtain ⟨nqb, hnqb⟩ : ∃ z, z = nq := ⟨_, rfl⟩
                rw [← hnqb]
                clear hnqb
                go_wp2
                obtain ⟨wq, hwq⟩ : ∃ wq : World, wq = (wr.drewN nqa).drewN nqb := ⟨_, rfl⟩
                have AQ : Aft wr wq := by rw [hwq]; exact ((Aft.refl _).drewN _).drewN _
                rw [← hwq]
                clear hwq
                have HQ := Lib.hid (HF2.out.trans AQ)
                have HBW := Lib.hid (HBX.out.aft (HA9.out.trans (HF.out.trans HQ.out)))
                have RT := Lib.hid ((HR.out.aft HQ.out).take' hk)
                have hrd := drop_rw (HR.out.aft HQ.out) hk
                rw [Nat.zero_add] at hrd
                have RD := Lib.hid hrd
                have c3 := AQ.cell c2
                clear hrd AQ
                have HSX := Lib.hid (show ∀ w', Aft wq w' → (fun w' => Aft wq w' ∧ w'.cell? ⟨w.heap.size, 0, none⟩ = some (.int .i64 x.base) ∧ w'.cell? ⟨w.heap.size, 1, none⟩ = some (.slice x.da x.dn x.dc) ∧ w'.cell? ⟨w.heap.size, 2, none⟩ = some (.slice x.pa x.pn x.pc) ∧ w'.cell? ⟨w.heap.size, 3, none⟩ = some (.bool x.sf) ∧ w'.cell? ⟨w.heap.size, 4, none⟩ = some (.string x.jo) ∧ w'.cell? ⟨w.heap.size, 5, none⟩ = some (.int .i64 x.sub) ∧ w'.cell? ⟨w.heap.size, 6, none⟩ = some (.string x.le) ∧ w'.cell? ⟨w.heap.size, 7, none⟩ = some (.bool x.om) ∧ w'.cell? ⟨b, off + q', none⟩ = some (.string s)) w' from fun w' a => ⟨a, (HBW.out.aft a).c0, (HBW.out.aft a).c1, (HBW.out.aft a).c2, (HBW.out.aft a).c3, (HBW.out.aft a).c4, (HBW.out.aft a).c5, (HBW.out.aft a).c6, (HBW.out.aft a).c7, a.cell c3⟩)
                refine wp_region_held_drew (S := fun w' => Aft wq w' ∧ w'.cell? ⟨w.heap.size, 0, none⟩ = some (.int .i64 x.base) ∧ w'.cell? ⟨w.heap.size, 1, none⟩ = some (.slice x.da x.dn x.dc) ∧ w'.cell? ⟨w.heap.size, 2, none⟩ = some (.slice x.pa x.pn x.pc) ∧ w'.cell? ⟨w.heap.size, 3, none⟩ = some (.bool x.sf) ∧ w'.cell? ⟨w.heap.size, 4, none⟩ = some (.string x.jo) ∧ w'.cell? ⟨w.heap.size, 5, none⟩ = some (.int .i64 x.sub) ∧ w'.cell? ⟨w.heap.size, 6, none⟩ = some (.string x.le) ∧ w'.cell? ⟨w.heap.size, 7, none⟩ = some (.bool x.om) ∧ w'.cell? ⟨b, off + q', none⟩ = some (.string s)) (by kernel_rfl) (HSX.out _ (by first | exact Aft.refl _ | exact Below.drew (Aft.refl _) | exact (Aft.refl _).drewN _)) (fun hHeld => ?_)
                refine take_on (i := 1) (v := ?v9017) rfl (by kernel_rfl) (by kernel_rfl) (by kernel_rfl) (fun _ _ _ h => h) (by rfl) (by assumption) ?y9017 ?_
                case y9017 => (intro w hSw; (try dsimp only at hSw); go_simp; (try with_reducible rfl))
                try simp only [Act.put, List.setIfInBounds_toArray, List.set_cons_zero, List.set_cons_succ]
                refine take_on (i := 2) (v := ?v9018) rfl (by kernel_rfl) (by kernel_rfl) (by kernel_rfl) (fun _ _ _ h => h) (by rfl) (by assumption) ?y9018 ?_
                case y9018 => (intro w hSw; (try dsimp only at hSw); go_simp; (try with_reducible rfl))
                try simp only [Act.put, List.setIfInBounds_toArray, List.set_cons_zero, List.set_cons_succ]
                refine take_on (i := 3) (v := ?v9019) rfl (by kernel_rfl) (by kernel_rfl) (by kernel_rfl) (fun _ _ _ h => h) (by rfl) (by assumption) ?y9019 ?_
                case y9019 => (intro w hSw; (try dsimp only at hSw); go_simp; (try with_reducible rfl))
                try simp only [Act.put, List.setIfInBounds_toArray, List.set_cons_zero, List.set_cons_succ]
                refine take_on (i := 5) (v := ?v9020) rfl (by kernel_rfl) (by kernel_rfl) (by kernel_rfl) (fun _ _ _ h => h) (by rfl) (by assumption) ?y9020 ?_
                case y9020 => (intro w hSw; (try dsimp only at hSw); go_simp; (try with_reducible rfl))
                try simp only [Act.put, List.setIfInBounds_toArray, List.set_cons_zero, List.set_cons_succ]
                refine take_on (i := 6) (v := ?v9021) rfl (by kernel_rfl) (by kernel_rfl) (by kernel_rfl) (fun _ _ _ h => h) (by rfl) (by assumption) ?y9021 ?_
                case y9021 => (intro w hSw; (try dsimp only at hSw); go_simp; (try with_reducible rfl))
                try simp only [Act.put, List.setIfInBounds_toArray, List.set_cons_zero, List.set_cons_succ]
                refine take_on (i := 7) (v := ?v9022) rfl (by kernel_rfl) (by kernel_rfl) (by kernel_rfl) (fun _ _ _ h => h) (by rfl) (by assumption) ?y9022 ?_
                case y9022 => (intro w hSw; (try dsimp only at hSw); go_simp; (try with_reducible rfl))
                try simp only [Act.put, List.setIfInBounds_toArray, List.set_cons_zero, List.set_cons_succ]
                refine take_on (i := 8) (v := ?v9023) rfl (by kernel_rfl) (by kernel_rfl) (by kernel_rfl) (fun _ _ _ h => h) (by rfl) (by assumption) ?y9023 ?_
                case y9023 => (intro w hSw; (try dsimp only at hSw); go_simp; (try with_reducible rfl))
                try simp only [Act.put, List.setIfInBounds_toArray, List.set_cons_zero, List.set_cons_succ]
                refine take_on (i := 11) (v := ?v9024) rfl (by kernel_rfl) (by kernel_rfl) (by kernel_rfl) (fun _ _ _ h => h) (by rfl) (by assumption) ?y9024 ?_
                case y9024 => (intro w hSw; (try dsimp only at hSw); go_simp; (try with_reducible rfl))
                try simp only [Act.put, List.setIfInBounds_toArray, List.set_cons_zero, List.set_cons_succ]
                refine take_on (i := 12) (v := ?v9025) rfl (by kernel_rfl) (by kernel_rfl) (by kernel_rfl) (fun _ _ _ h => h) (by rfl) (by assumption) ?y9025 ?_
                case y9025 => (intro w hSw; (try dsimp only at hSw); go_simp; (try with_reducible rfl))
                try simp only [Act.put, List.setIfInBounds_toArray, List.set_cons_zero, List.set_cons_succ]
                refine take_on (i := 13) (v := ?v9026) rfl (by kernel_rfl) (by kernel_rfl) (by kernel_rfl) (fun _ _ _ h => h) (by rfl) (by assumption) ?y9026 ?_
                case y9026 => (intro w hSw; (try dsimp only at hSw); go_simp; (try with_reducible rfl))
                try simp only [Act.put, List.setIfInBounds_toArray, List.set_cons_zero, List.set_cons_succ]
                refine two_readyN (i := 0) (j := 9) rfl rfl (by kernel_rfl) (by rfl) (by rfl) (fun K hK => ?_) (fun K hK => ?_)
                · have hA9034 := Lib.hid hHeld.1
                  go_simp
                  refine hK.out _ _ (HSX.out _ (by first | exact Aft.alloc hA9034.out _ | exact Aft.alloc (Below.drew hA9034.out) _)) (fun hHeld => ?_)
                  clear hK K
                  try simp only [Act.put, List.setIfInBounds_toArray, List.set_cons_zero, List.set_cons_succ]
                  first | have ho9 := own_weak (own_new hHeld.1) (show wq.heap.size ≤ _ from by first | exact Nat.le_refl _ | (simp; done) | (show _ ≤ (World.alloc _ _).heap.size; simp)) | have ho9 := own_weak (own_newD hHeld.1) (show wq.heap.size ≤ _ from by first | exact Nat.le_refl _ | (simp; done) | (show _ ≤ (World.alloc _ _).heap.size; simp))
                  try simp only [World.size_alloc] at ho9
                  have HO := Lib.hid ho9
                  clear ho9
                  have HOF := Lib.hid (fun W' (a : Aft _ W') => row_aft HO.out a)
                  refine two_readyN (i := 4) (j := 9) rfl rfl (by kernel_rfl) (by rfl) (by rfl) (fun K hK => ?_) (fun K hK => ?_)
                  · have hA2 := Lib.hid hHeld.1
                    refine wp_append_any _ _ 22 rfl wq.heap.size 9 i0 _ 1 16 Tryd.underlying22 hi0 hz0 hz1' hz2' rfl (by decide) _ _ _ rfl (HOF.out _ (by first | exact Aft.refl _ | exact Below.drew (Aft.refl _) | exact (Aft.refl _).alloc _ | exact Below.drew ((Aft.refl _).alloc _) | exact Aft.alloc (Below.drew (Aft.refl _)) _ | exact Below.drew (Aft.alloc (Below.drew (Aft.refl _)) _))) (some ⟨g, 0, none⟩) k cap ((L.take k).map sV) rfl (by rw [List.length_map, RT.out.len, Nat.mul_one]) (fun e => (by cases e)) (fun ad e => by cases e; exact news_of (RT.out.aft (by first | exact hA2.out | exact Below.drew hA2.out))) (map_one (fun _ => rfl) _) (by unfold maxLen; omega) (by omega) (by first | exact hA2.out.size | exact Below.size (Below.drew hA2.out)) (fun v1 wn own1 grow1 => ?_)
                    have hAn := Lib.hid (show Aft wq wn from (by first | exact hA2.out.grown grow1 (fun k e => (HO.out.lt k e).1) | exact (show Aft wq _ from Below.drew hA2.out).grown grow1 (fun k e => (HO.out.lt k e).1)))
                    have HO1 := Lib.hid own1
                    have HO1F := Lib.hid (fun W' (a : Aft _ W') => row_aft HO1.out a)
                    clear own1 grow1
                    try go_simp
                    refine hK.out _ _ (HSX.out _ hAn.out) (fun hHeld => ?_)
                    clear hK K
                    try simp only [Act.put, List.setIfInBounds_toArray, List.set_cons_zero, List.set_cons_succ]
                    refine one_ready (i := 9) rfl (by kernel_rfl) (by rfl) (fun K hK => ?_)
                    have hA9027 := Lib.hid hHeld.1
                    go_simp
                    refine hK.out _ _ (HSX.out _ (by first | exact Aft.alloc hA9027.out _ | exact Aft.alloc (Below.drew hA9027.out) _)) (fun hHeld => ?_)
                    clear hK K
                    try simp only [Act.put, List.setIfInBounds_toArray, List.set_cons_zero, List.set_cons_succ]
                    first | have hle9 := le_new hHeld.1 | have hle9 := le_newD hHeld.1
                    try simp only [World.size_alloc] at hle9
                    have HLE := Lib.hid hle9
                    clear hle9
                    have HLF := Lib.hid (fun W' (a : Aft _ W') => a.cell HLE.out)
                    refine one_ready (i := 10) rfl (by kernel_rfl) (by rfl) (fun K hK => ?_)
                    have hA6 := Lib.hid hHeld.1
                    refine wp_append_any _ _ 22 rfl wq.heap.size 9 i0 _ 1 16 Tryd.underlying22 hi0 hz0 hz1' hz2' rfl (by decide) _ _ _ rfl (HO1F.out _ (by first | exact Aft.refl _ | exact Below.drew (Aft.refl _) | exact (Aft.refl _).alloc _ | exact Below.drew ((Aft.refl _).alloc _) | exact Aft.alloc (Below.drew (Aft.refl _)) _ | exact Below.drew (Aft.alloc (Below.drew (Aft.refl _)) _))) (some ⟨_, 0, none⟩) 1 1 ([s].map sV) rfl rfl (fun e => (by cases e)) (fun ad e => by cases e; exact news_of (row1 (HLF.out _ (by first | exact Aft.refl _ | exact Below.drew (Aft.refl _) | exact (Aft.refl _).alloc _ | exact Below.drew ((Aft.refl _).alloc _) | exact Aft.alloc (Below.drew (Aft.refl _)) _ | exact Below.drew (Aft.alloc (Below.drew (Aft.refl _)) _))))) (map_one (fun _ => rfl) _) (by unfold maxLen; omega) (by omega) (by first | exact hA6.out.size | exact Below.size (Below.drew hA6.out)) (fun v2 wn own2 grow2 => ?_)
                    have hAm := Lib.hid (show Aft wq wn from (by first | exact hA6.out.grown grow2 (fun k e => (HO1.out.lt k e).1) | exact (show Aft wq _ from Below.drew hA6.out).grown grow2 (fun k e => (HO1.out.lt k e).1)))
                    have HO3 := Lib.hid own2
                    have HO3F := Lib.hid (fun W' (a : Aft _ W') => row_aft HO3.out a)
                    clear own2 grow2
                    try go_simp
                    refine hK.out _ _ (HSX.out _ hAm.out) (fun hHeld => ?_)
                    clear hK K
                    try simp only [Act.put, List.setIfInBounds_toArray, List.set_cons_zero, List.set_cons_succ]
                    refine one_ready (i := 14) rfl (by kernel_rfl) (by rfl) (fun K hK => ?_)
                    have hA8 := Lib.hid hHeld.1
                    refine wp_append_any _ _ 22 rfl wq.heap.size 9 i0 _ 1 16 Tryd.underlying22 hi0 hz0 hz1' hz2' rfl (by decide) _ _ _ rfl (HO3F.out _ (by first | exact Aft.refl _ | exact Below.drew (Aft.refl _) | exact (Aft.refl _).alloc _ | exact Below.drew ((Aft.refl _).alloc _) | exact Aft.alloc (Below.drew (Aft.refl _)) _ | exact Below.drew (Aft.alloc (Below.drew (Aft.refl _)) _))) (some ⟨g, k, none⟩) (m - k) (cap - k) ((L.drop k).map sV) rfl (by rw [List.length_map, RD.out.len, Nat.mul_one]) (fun e => (by cases e)) (fun ad e => by cases e; exact news_of (RD.out.aft (by first | exact hA8.out | exact Below.drew hA8.out))) (map_one (fun _ => rfl) _) (by unfold maxLen; omega) (by omega) (by first | exact hA8.out.size | exact Below.size (Below.drew hA8.out)) (fun v3 wn own3 grow3 => ?_)
                    have hAz := Lib.hid (show Aft wq wn from (by first | exact hA8.out.grown grow3 (fun k e => (HO3.out.lt k e).1) | exact (show Aft wq _ from Below.drew hA8.out).grown grow3 (fun k e => (HO3.out.lt k e).1)))
                    rw [show 0 + k + 1 + (m - k) = m + 1 by omega] at own3
                    obtain ⟨g', cap', rfl⟩ := row_succ own3
                    obtain ⟨Xz, qz, hvz, hXz⟩ := Rw.of_row (enc := sV) (l := L.take k ++ [s] ++ L.drop k) (by simpa using own3) (by have l1 := HLM.out; simp; omega)
                    cases hvz
                    have HXZ := Lib.hid hXz
                    clear own3 grow3 hXz
                    try go_simp
                    refine hK.out _ _ (HSX.out _ hAz.out) (fun hHeld => ?_)
                    clear hK K
                    try simp only [Act.put, List.setIfInBounds_toArray, List.set_cons_zero, List.set_cons_succ]
                    refine take_on (i := 15) (v := ?v9028) rfl (by kernel_rfl) (by kernel_rfl) (by kernel_rfl) (fun _ _ _ h => h) (by rfl) (by assumption) ?y9028 ?_
                    case y9028 => (intro w hSw; (try dsimp only at hSw); go_simp; (try with_reducible rfl))
                    try simp only [Act.put, List.setIfInBounds_toArray, List.set_cons_zero, List.set_cons_succ]
                    refine wpAnyH_done (by kernel_rfl) ?_ _
                    have HZZ := Lib.hid hHeld.1
                    clear hHeld HSX
                    go_wp2
                    go_roundw
                    case rel => exact ⟨q' + 1, g', _, m + 1, _, by omega, by go_num, rfl, by omega, HXZ.out.aft (by first | exact Aft.refl _ | exact Below.drew (Aft.refl _) | exact (Aft.refl _).alloc _ | exact Below.drew ((Aft.refl _).alloc _) | exact Aft.alloc (Below.drew (Aft.refl _)) _ | exact Below.drew (Aft.alloc (Below.drew (Aft.refl _)) _)), inv_ins HS.out HI.out HNB.out HLO.out HHI.out, HF.out.trans (HQ.out.trans (by first | exact HZZ.out | exact Below.drew HZZ.out))⟩
                    case measure => simp [intOf]; omega
                  · have hA9029 := Lib.hid hHeld.1
                    go_simp
                    refine hK.out _ _ (HSX.out _ (by first | exact Aft.alloc hA9029.out _ | exact Aft.alloc (Below.drew hA9029.out) _)) (fun hHeld => ?_)
                    clear hK K
                    try simp only [Act.put, List.setIfInBounds_toArray, List.set_cons_zero, List.set_cons_succ]
                    first | have hle9 := le_new hHeld.1 | have hle9 := le_newD hHeld.1
                    try simp only [World.size_alloc] at hle9
                    have HLE := Lib.hid hle9
                    clear hle9
                    have HLF := Lib.hid (fun W' (a : Aft _ W') => a.cell HLE.out)
                    refine one_ready (i := 4) rfl (by kernel_rfl) (by rfl) (fun K hK => ?_)
                    have hA2 := Lib.hid hHeld.1
                    refine wp_append_any _ _ 22 rfl wq.heap.size 9 i0 _ 1 16 Tryd.underlying22 hi0 hz0 hz1' hz2' rfl (by decide) _ _ _ rfl (HOF.out _ (by first | exact Aft.refl _ | exact Below.drew (Aft.refl _) | exact (Aft.refl _).alloc _ | exact Below.drew ((Aft.refl _).alloc _) | exact Aft.alloc (Below.drew (Aft.refl _)) _ | exact Below.drew (Aft.alloc (Below.drew (Aft.refl _)) _))) (some ⟨g, 0, none⟩) k cap ((L.take k).map sV) rfl (by rw [List.length_map, RT.out.len, Nat.mul_one]) (fun e => (by cases e)) (fun ad e => by cases e; exact news_of (RT.out.aft (by first | exact hA2.out | exact Below.drew hA2.out))) (map_one (fun _ => rfl) _) (by unfold maxLen; omega) (by omega) (by first | exact hA2.out.size | exact Below.size (Below.drew hA2.out)) (fun v1 wn own1 grow1 => ?_)
                    have hAn := Lib.hid (show Aft wq wn from (by first | exact hA2.out.grown grow1 (fun k e => (HO.out.lt k e).1) | exact (show Aft wq _ from Below.drew hA2.out).grown grow1 (fun k e => (HO.out.lt k e).1)))
                    have HLG := Lib.hid (grown_cell grow1 (HLF.out _ (by first | exact Aft.refl _ | exact Below.drew (Aft.refl _) | exact (Aft.refl _).alloc _ | exact Below.drew ((Aft.refl _).alloc _) | exact Aft.alloc (Below.drew (Aft.refl _)) _ | exact Below.drew (Aft.alloc (Below.drew (Aft.refl _)) _))) (fun h => by have h2 : some (wq.heap.size + 1) = some wq.heap.size := h; simp at h2))
                    have HLH := Lib.hid (fun W' (a : Aft _ W') => a.cell HLG.out)
                    have HO1 := Lib.hid own1
                    have HO1F := Lib.hid (fun W' (a : Aft _ W') => row_aft HO1.out a)
                    clear own1 grow1
                    try go_simp
                    refine hK.out _ _ (HSX.out _ hAn.out) (fun hHeld => ?_)
                    clear hK K
                    try simp only [Act.put, List.setIfInBounds_toArray, List.set_cons_zero, List.set_cons_succ]
                    refine one_ready (i := 10) rfl (by kernel_rfl) (by rfl) (fun K hK => ?_)
                    have hA6 := Lib.hid hHeld.1
                    refine wp_append_any _ _ 22 rfl wq.heap.size 9 i0 _ 1 16 Tryd.underlying22 hi0 hz0 hz1' hz2' rfl (by decide) _ _ _ rfl (HO1F.out _ (by first | exact Aft.refl _ | exact Below.drew (Aft.refl _) | exact (Aft.refl _).alloc _ | exact Below.drew ((Aft.refl _).alloc _) | exact Aft.alloc (Below.drew (Aft.refl _)) _ | exact Below.drew (Aft.alloc (Below.drew (Aft.refl _)) _))) (some ⟨_, 0, none⟩) 1 1 ([s].map sV) rfl rfl (fun e => (by cases e)) (fun ad e => by cases e; exact news_of (row1 (HLH.out _ (by first | exact Aft.refl _ | exact Below.drew (Aft.refl _) | exact (Aft.refl _).alloc _ | exact Below.drew ((Aft.refl _).alloc _) | exact Aft.alloc (Below.drew (Aft.refl _)) _ | exact Below.drew (Aft.alloc (Below.drew (Aft.refl _)) _))))) (map_one (fun _ => rfl) _) (by unfold maxLen; omega) (by omega) (by first | exact hA6.out.size | exact Below.size (Below.drew hA6.out)) (fun v2 wn own2 grow2 => ?_)
                    have hAm := Lib.hid (show Aft wq wn from (by first | exact hA6.out.grown grow2 (fun k e => (HO1.out.lt k e).1) | exact (show Aft wq _ from Below.drew hA6.out).grown grow2 (fun k e => (HO1.out.lt k e).1)))
                    have HO3 := Lib.hid own2
                    have HO3F := Lib.hid (fun W' (a : Aft _ W') => row_aft HO3.out a)
                    clear own2 grow2
                    try go_simp
                    refine hK.out _ _ (HSX.out _ hAm.out) (fun hHeld => ?_)
                    clear hK K
                    try simp only [Act.put, List.setIfInBounds_toArray, List.set_cons_zero, List.set_cons_succ]
                    refine one_ready (i := 14) rfl (by kernel_rfl) (by rfl) (fun K hK => ?_)
                    have hA8 := Lib.hid hHeld.1
                    refine wp_append_any _ _ 22 rfl wq.heap.size 9 i0 _ 1 16 Tryd.underlying22 hi0 hz0 hz1' hz2' rfl (by decide) _ _ _ rfl (HO3F.out _ (by first | exact Aft.refl _ | exact Below.drew (Aft.refl _) | exact (Aft.refl _).alloc _ | exact Below.drew ((Aft.refl _).alloc _) | exact Aft.alloc (Below.drew (Aft.refl _)) _ | exact Below.drew (Aft.alloc (Below.drew (Aft.refl _)) _))) (some ⟨g, k, none⟩) (m - k) (cap - k) ((L.drop k).map sV) rfl (by rw [List.length_map, RD.out.len, Nat.mul_one]) (fun e => (by cases e)) (fun ad e => by cases e; exact news_of (RD.out.aft (by first | exact hA8.out | exact Below.drew hA8.out))) (map_one (fun _ => rfl) _) (by unfold maxLen; omega) (by omega) (by first | exact hA8.out.size | exact Below.size (Below.drew hA8.out)) (fun v3 wn own3 grow3 => ?_)
                    have hAz := Lib.hid (show Aft wq wn from (by first | exact hA8.out.grown grow3 (fun k e => (HO3.out.lt k e).1) | exact (show Aft wq _ from Below.drew hA8.out).grown grow3 (fun k e => (HO3.out.lt k e).1)))
                    rw [show 0 + k + 1 + (m - k) = m + 1 by omega] at own3
                    obtain ⟨g', cap', rfl⟩ := row_succ own3
                    obtain ⟨Xz, qz, hvz, hXz⟩ := Rw.of_row (enc := sV) (l := L.take k ++ [s] ++ L.drop k) (by simpa using own3) (by have l1 := HLM.out; simp; omega)
                    cases hvz
                    have HXZ := Lib.hid hXz
                    clear own3 grow3 hXz
                    try go_simp
                    refine hK.out _ _ (HSX.out _ hAz.out) (fun hHeld => ?_)
                    clear hK K
                    try simp only [Act.put, List.setIfInBounds_toArray, List.set_cons_zero, List.set_cons_succ]
                    refine take_on (i := 15) (v := ?v9030) rfl (by kernel_rfl) (by kernel_rfl) (by kernel_rfl) (fun _ _ _ h => h) (by rfl) (by assumption) ?y9030 ?_
                    case y9030 => (intro w hSw; (try dsimp only at hSw); go_simp; (try with_reducible rfl))
                    try simp only [Act.put, List.setIfInBounds_toArray, List.set_cons_zero, List.set_cons_succ]
                    refine wpAnyH_done (by kernel_rfl) ?_ _
                    have HZZ := Lib.hid hHeld.1
                    clear hHeld HSX
                    go_wp2
                    go_roundw
                    case rel => exact ⟨q' + 1, g', _, m + 1, _, by omega, by go_num, rfl, by omega, HXZ.out.aft (by first | exact Aft.refl _ | exact Below.drew (Aft.refl _) | exact (Aft.refl _).alloc _ | exact Below.drew ((Aft.refl _).alloc _) | exact Aft.alloc (Below.drew (Aft.refl _)) _ | exact Below.drew (Aft.alloc (Below.drew (Aft.refl _)) _)), inv_ins HS.out HI.out HNB.out HLO.out HHI.out, HF.out.trans (HQ.out.trans (by first | exact HZZ.out | exact Below.drew HZZ.out))⟩
                    case measure => simp [intOf]; omega
                · have hA9031 := Lib.hid hHeld.1
                  go_simp
                  refine hK.out _ _ (HSX.out _ (by first | exact Aft.alloc hA9031.out _ | exact Aft.alloc (Below.drew hA9031.out) _)) (fun hHeld => ?_)
                  clear hK K
                  try simp only [Act.put, List.setIfInBounds_toArray, List.set_cons_zero, List.set_cons_succ]
                  first | have hle9 := le_new hHeld.1 | have hle9 := le_newD hHeld.1
                  try simp only [World.size_alloc] at hle9
                  have HLE := Lib.hid hle9
                  clear hle9
                  have HLF := Lib.hid (fun W' (a : Aft _ W') => a.cell HLE.out)
                  refine one_ready (i := 0) rfl (by kernel_rfl) (by rfl) (fun K hK => ?_)
                  have hA9032 := Lib.hid hHeld.1
                  go_simp
                  refine hK.out _ _ (HSX.out _ (by first | exact Aft.alloc hA9032.out _ | exact Aft.alloc (Below.drew hA9032.out) _)) (fun hHeld => ?_)
                  clear hK K
                  try simp only [Act.put, List.setIfInBounds_toArray, List.set_cons_zero, List.set_cons_succ]
                  first | have ho9 := own_weak (own_new hHeld.1) (show wq.heap.size ≤ _ from by first | exact Nat.le_refl _ | (simp; done) | (show _ ≤ (World.alloc _ _).heap.size; simp)) | have ho9 := own_weak (own_newD hHeld.1) (show wq.heap.size ≤ _ from by first | exact Nat.le_refl _ | (simp; done) | (show _ ≤ (World.alloc _ _).heap.size; simp))
                  try simp only [World.size_alloc] at ho9
                  have HO := Lib.hid ho9
                  clear ho9
                  have HOF := Lib.hid (fun W' (a : Aft _ W') => row_aft HO.out a)
                  refine one_ready (i := 4) rfl (by kernel_rfl) (by rfl) (fun K hK => ?_)
                  have hA2 := Lib.hid hHeld.1
                  refine wp_append_any _ _ 22 rfl wq.heap.size 9 i0 _ 1 16 Tryd.underlying22 hi0 hz0 hz1' hz2' rfl (by decide) _ _ _ rfl (HOF.out _ (by first | exact Aft.refl _ | exact Below.drew (Aft.refl _) | exact (Aft.refl _).alloc _ | exact Below.drew ((Aft.refl _).alloc _) | exact Aft.alloc (Below.drew (Aft.refl _)) _ | exact Below.drew (Aft.alloc (Below.drew (Aft.refl _)) _))) (some ⟨g, 0, none⟩) k cap ((L.take k).map sV) rfl (by rw [List.length_map, RT.out.len, Nat.mul_one]) (fun e => (by cases e)) (fun ad e => by cases e; exact news_of (RT.out.aft (by first | exact hA2.out | exact Below.drew hA2.out))) (map_one (fun _ => rfl) _) (by unfold maxLen; omega) (by omega) (by first | exact hA2.out.size | exact Below.size (Below.drew hA2.out)) (fun v1 wn own1 grow1 => ?_)
                  have hAn := Lib.hid (show Aft wq wn from (by first | exact hA2.out.grown grow1 (fun k e => (HO.out.lt k e).1) | exact (show Aft wq _ from Below.drew hA2.out).grown grow1 (fun k e => (HO.out.lt k e).1)))
                  have HLG := Lib.hid (grown_cell grow1 (HLF.out _ (by first | exact Aft.refl _ | exact Below.drew (Aft.refl _) | exact (Aft.refl _).alloc _ | exact Below.drew ((Aft.refl _).alloc _) | exact Aft.alloc (Below.drew (Aft.refl _)) _ | exact Below.drew (Aft.alloc (Below.drew (Aft.refl _)) _))) (fun h => by have h2 : some wq.heap.size = some (wq.heap.size + 1) := h; simp at h2))
                  have HLH := Lib.hid (fun W' (a : Aft _ W') => a.cell HLG.out)
                  have HO1 := Lib.hid own1
                  have HO1F := Lib.hid (fun W' (a : Aft _ W') => row_aft HO1.out a)
                  clear own1 grow1
                  try go_simp
                  refine hK.out _ _ (HSX.out _ hAn.out) (fun hHeld => ?_)
                  clear hK K
                  try simp only [Act.put, List.setIfInBounds_toArray, List.set_cons_zero, List.set_cons_succ]
                  refine one_ready (i := 10) rfl (by kernel_rfl) (by rfl) (fun K hK => ?_)
                  have hA6 := Lib.hid hHeld.1
                  refine wp_append_any _ _ 22 rfl wq.heap.size 9 i0 _ 1 16 Tryd.underlying22 hi0 hz0 hz1' hz2' rfl (by decide) _ _ _ rfl (HO1F.out _ (by first | exact Aft.refl _ | exact Below.drew (Aft.refl _) | exact (Aft.refl _).alloc _ | exact Below.drew ((Aft.refl _).alloc _) | exact Aft.alloc (Below.drew (Aft.refl _)) _ | exact Below.drew (Aft.alloc (Below.drew (Aft.refl _)) _))) (some ⟨_, 0, none⟩) 1 1 ([s].map sV) rfl rfl (fun e => (by cases e)) (fun ad e => by cases e; exact news_of (row1 (HLH.out _ (by first | exact Aft.refl _ | exact Below.drew (Aft.refl _) | exact (Aft.refl _).alloc _ | exact Below.drew ((Aft.refl _).alloc _) | exact Aft.alloc (Below.drew (Aft.refl _)) _ | exact Below.drew (Aft.alloc (Below.drew (Aft.refl _)) _))))) (map_one (fun _ => rfl) _) (by unfold maxLen; omega) (by omega) (by first | exact hA6.out.size | exact Below.size (Below.drew hA6.out)) (fun v2 wn own2 grow2 => ?_)
                  have hAm := Lib.hid (show Aft wq wn from (by first | exact hA6.out.grown grow2 (fun k e => (HO1.out.lt k e).1) | exact (show Aft wq _ from Below.drew hA6.out).grown grow2 (fun k e => (HO1.out.lt k e).1)))
                  have HO3 := Lib.hid own2
                  have HO3F := Lib.hid (fun W' (a : Aft _ W') => row_aft HO3.out a)
                  clear own2 grow2
                  try go_simp
                  refine hK.out _ _ (HSX.out _ hAm.out) (fun hHeld => ?_)
                  clear hK K
                  try simp only [Act.put, List.setIfInBounds_toArray, List.set_cons_zero, List.set_cons_succ]
                  refine one_ready (i := 14) rfl (by kernel_rfl) (by rfl) (fun K hK => ?_)
                  have hA8 := Lib.hid hHeld.1
                  refine wp_append_any _ _ 22 rfl wq.heap.size 9 i0 _ 1 16 Tryd.underlying22 hi0 hz0 hz1' hz2' rfl (by decide) _ _ _ rfl (HO3F.out _ (by first | exact Aft.refl _ | exact Below.drew (Aft.refl _) | exact (Aft.refl _).alloc _ | exact Below.drew ((Aft.refl _).alloc _) | exact Aft.alloc (Below.drew (Aft.refl _)) _ | exact Below.drew (Aft.alloc (Below.drew (Aft.refl _)) _))) (some ⟨g, k, none⟩) (m - k) (cap - k) ((L.drop k).map sV) rfl (by rw [List.length_map, RD.out.len, Nat.mul_one]) (fun e => (by cases e)) (fun ad e => by cases e; exact news_of (RD.out.aft (by first | exact hA8.out | exact Below.drew hA8.out))) (map_one (fun _ => rfl) _) (by unfold maxLen; omega) (by omega) (by first | exact hA8.out.size | exact Below.size (Below.drew hA8.out)) (fun v3 wn own3 grow3 => ?_)
                  have hAz := Lib.hid (show Aft wq wn from (by first | exact hA8.out.grown grow3 (fun k e => (HO3.out.lt k e).1) | exact (show Aft wq _ from Below.drew hA8.out).grown grow3 (fun k e => (HO3.out.lt k e).1)))
                  rw [show 0 + k + 1 + (m - k) = m + 1 by omega] at own3
                  obtain ⟨g', cap', rfl⟩ := row_succ own3
                  obtain ⟨Xz, qz, hvz, hXz⟩ := Rw.of_row (enc := sV) (l := L.take k ++ [s] ++ L.drop k) (by simpa using own3) (by have l1 := HLM.out; simp; omega)
                  cases hvz
                  have HXZ := Lib.hid hXz
                  clear own3 grow3 hXz
                  try go_simp
                  refine hK.out _ _ (HSX.out _ hAz.out) (fun hHeld => ?_)
                  clear hK K
                  try simp only [Act.put, List.setIfInBounds_toArray, List.set_cons_zero, List.set_cons_succ]
                  refine take_on (i := 15) (v := ?v9033) rfl (by kernel_rfl) (by kernel_rfl) (by kernel_rfl) (fun _ _ _ h => h) (by rfl) (by assumption) ?y9033 ?_
                  case y9033 => (intro w hSw; (try dsimp only at hSw); go_simp; (try with_reducible rfl))
                  try simp only [Act.put, List.setIfInBounds_toArray, List.set_cons_zero, List.set_cons_succ]
                  refine wpAnyH_done (by kernel_rfl) ?_ _
                  have HZZ := Lib.hid hHeld.1
                  clear hHeld HSX
                  go_wp2
                  go_roundw
                  case rel => exact ⟨q' + 1, g', _, m + 1, _, by omega, by go_num, rfl, by omega, HXZ.out.aft (by first | exact Aft.refl _ | exact Below.drew (Aft.refl _) | exact (Aft.refl _).alloc _ | exact Below.drew ((Aft.refl _).alloc _) | exact Aft.alloc (Below.drew (Aft.refl _)) _ | exact Below.drew (Aft.alloc (Below.drew (Aft.refl _)) _)), inv_ins HS.out HI.out HNB.out HLO.out HHI.out, HF.out.trans (HQ.out.trans (by first | exact HZZ.out | exact Below.drew HZZ.out))⟩
                  case measure => simp [intOf]; omega
          · have hb : Op.bytesLess t.toList s.toList = true := hts
            have HNX := Lib.hid (show ∀ j u, j < k + 1 → L[j]? = some u → lt u s = true from fun j u hj hu => by
              by_cases hjk : j < k
              · exact HLO.out j u hjk hu
              · obtain rfl : j = k := by omega
                rw [HTT.out] at hu
                cases hu
                exact hts)
            clear hts
            go_wp2
            go_quiet (fail)
            go_wp2
            go_roundw
            case rel => exact ⟨k + 1, by omega, by go_num, HNX.out, (by first | exact HF2.out | exact Aft.drewN HF2.out _ | exact Below.drew HF2.out | exact Below.drew (Below.drew HF2.out) | exact Below.drew (Aft.drewN HF2.out _) | exact Aft.drewN (Aft.drewN HF2.out _) _)⟩
            case measure => simp [intOf]; omega
        · obtain rfl : k = m := by omega
          by_cases he : s.size = 0
          · rw [decide_eq_true he] at hem
            have HNB := Lib.hid (show neB s = false by unfold neB; rw [decide_eq_true he]; rfl)
            clear he
            go_wp2
            go_quiet (fail)
            go_wp2
            go_quiet (fail)
            go_wp2
            go_roundw
            case rel => exact ⟨q' + 1, g, cap, k, L, by omega, by go_num, rfl, by omega, HR.out.aft (by first | exact HF2.out | exact Aft.drewN HF2.out _ | exact Below.drew HF2.out | exact Below.drew (Below.drew HF2.out) | exact Below.drew (Aft.drewN HF2.out _) | exact Aft.drewN (Aft.drewN HF2.out _) _), inv_there HS.out HI.out (.inl HNB.out), HF.out.trans (by first | exact HF2.out | exact Aft.drewN HF2.out _ | exact Below.drew HF2.out | exact Below.drew (Below.drew HF2.out) | exact Below.drew (Aft.drewN HF2.out _) | exact Aft.drewN (Aft.drewN HF2.out _) _)⟩
            case measure => simp [intOf]; omega
          · rw [decide_eq_false he] at hem
            have HNB := Lib.hid (show neB s = true by unfold neB; rw [decide_eq_false he]; rfl)
            clear he
            have HHI := Lib.hid (show ∀ u, L[k]? = some u → lt s u = true from fun u hu => by
              have h8 := (List.getElem?_eq_some_iff.1 hu).1
              have h9 := HLM.out
              omega)
            by_cases hcap : cap = k
            · have hck : k = cap := hcap.symm
              clear hcap
              subst hck
              have hm25 : k ≤ 24 := by omega
              have hkc : (k : Int) ≤ (k : Int) := by omega
              have hmc : (k : Int) ≤ (k : Int) := by omega
              have hkmi : (k : Int) ≤ (k : Int) := by omega
              have hkmn : k ≤ k := hk
              have hkcn : k ≤ k := by omega
              go_wp2
              go_quiet (fail)
              obtain ⟨nqa, hnqa⟩ : ∃ z, z = nq := ⟨_, rfl⟩
              rw [← hnqa]
              clear hnqa
              go_wp2
              go_quiet (fail)
              obtain ⟨nqb, hnqb⟩ : ∃ z, z = nq := ⟨_, rfl⟩
              rw [← hnqb]
              clear hnqb
              go_wp2
              obtain ⟨wq, hwq⟩ : ∃ wq : World, wq = (wr.drewN nqa).drewN nqb := ⟨_, rfl⟩
              have AQ : Aft wr wq := by rw [hwq]; exact ((Aft.refl _).drewN _).drewN _
              rw [← hwq]
              clear hwq
              have HQ := Lib.hid (HF2.out.trans AQ)
              have HBW := Lib.hid (HBX.out.aft (HA9.out.trans (HF.out.trans HQ.out)))
              have RT := Lib.hid ((HR.out.aft HQ.out).take' hk)
              have hrd := drop_rw (HR.out.aft HQ.out) hk
              rw [Nat.zero_add] at hrd
              simp only [Nat.sub_self] at hrd
              have hrd : Rw sV wq (some ⟨g, 0, none⟩) 0 0 (L.drop k) := by rw [List.drop_of_length_le (by have := HLM.out; omega)]; exact rw_nil_at _ _
              have RD := Lib.hid hrd
              have c3 := AQ.cell c2
              clear hrd AQ
              have HSX := Lib.hid (show ∀ w', Aft wq w' → (fun w' => Aft wq w' ∧ w'.cell? ⟨w.heap.size, 0, none⟩ = some (.int .i64 x.base) ∧ w'.cell? ⟨w.heap.size, 1, none⟩ = some (.slice x.da x.dn x.dc) ∧ w'.cell? ⟨w.heap.size, 2, none⟩ = some (.slice x.pa x.pn x.pc) ∧ w'.cell? ⟨w.heap.size, 3, none⟩ = some (.bool x.sf) ∧ w'.cell? ⟨w.heap.size, 4, none⟩ = some (.string x.jo) ∧ w'.cell? ⟨w.heap.size, 5, none⟩ = some (.int .i64 x.sub) ∧ w'.cell? ⟨w.heap.size, 6, none⟩ = some (.string x.le) ∧ w'.cell? ⟨w.heap.size, 7, none⟩ = some (.bool x.om) ∧ w'.cell? ⟨b, off + q', none⟩ = some (.string s)) w' from fun w' a => ⟨a, (HBW.out.aft a).c0, (HBW.out.aft a).c1, (HBW.out.aft a).c2, (HBW.out.aft a).c3, (HBW.out.aft a).c4, (HBW.out.aft a).c5, (HBW.out.aft a).c6, (HBW.out.aft a).c7, a.cell c3⟩)
              refine wp_region_held_drew (S := fun w' => Aft wq w' ∧ w'.cell? ⟨w.heap.size, 0, none⟩ = some (.int .i64 x.base) ∧ w'.cell? ⟨w.heap.size, 1, none⟩ = some (.slice x.da x.dn x.dc) ∧ w'.cell? ⟨w.heap.size, 2, none⟩ = some (.slice x.pa x.pn x.pc) ∧ w'.cell? ⟨w.heap.size, 3, none⟩ = some (.bool x.sf) ∧ w'.cell? ⟨w.heap.size, 4, none⟩ = some (.string x.jo) ∧ w'.cell? ⟨w.heap.size, 5, none⟩ = some (.int .i64 x.sub) ∧ w'.cell? ⟨w.heap.size, 6, none⟩ = some (.string x.le) ∧ w'.cell? ⟨w.heap.size, 7, none⟩ = some (.bool x.om) ∧ w'.cell? ⟨b, off + q', none⟩ = some (.string s)) (by kernel_rfl) (HSX.out _ (by first | exact Aft.refl _ | exact Below.drew (Aft.refl _) | exact (Aft.refl _).drewN _)) (fun hHeld => ?_)
              refine take_on (i := 1) (v := ?v9035) rfl (by kernel_rfl) (by kernel_rfl) (by kernel_rfl) (fun _ _ _ h => h) (by rfl) (by assumption) ?y9035 ?_
              case y9035 => (intro w hSw; (try dsimp only at hSw); go_simp; (try with_reducible rfl))
              try simp only [Act.put, List.setIfInBounds_toArray, List.set_cons_zero, List.set_cons_succ]
              refine take_on (i := 2) (v := ?v9036) rfl (by kernel_rfl) (by kernel_rfl) (by kernel_rfl) (fun _ _ _ h => h) (by rfl) (by assumption) ?y9036 ?_
              case y9036 => (intro w hSw; (try dsimp only at hSw); go_simp; (try with_reducible rfl))
              try simp only [Act.put, List.setIfInBounds_toArray, List.set_cons_zero, List.set_cons_succ]
              refine take_on (i := 3) (v := ?v9037) rfl (by kernel_rfl) (by kernel_rfl) (by kernel_rfl) (fun _ _ _ h => h) (by rfl) (by assumption) ?y9037 ?_
              case y9037 => (intro w hSw; (try dsimp only at hSw); go_simp; (try with_reducible rfl))
              try simp only [Act.put, List.setIfInBounds_toArray, List.set_cons_zero, List.set_cons_succ]
              refine take_on (i := 5) (v := ?v9038) rfl (by kernel_rfl) (by kernel_rfl) (by kernel_rfl) (fun _ _ _ h => h) (by rfl) (by assumption) ?y9038 ?_
              case y9038 => (intro w hSw; (try dsimp only at hSw); go_simp; (try with_reducible rfl))
              try simp only [Act.put, List.setIfInBounds_toArray, List.set_cons_zero, List.set_cons_succ]
              refine take_on (i := 6) (v := ?v9039) rfl (by kernel_rfl) (by kernel_rfl) (by kernel_rfl) (fun _ _ _ h => h) (by rfl) (by assumption) ?y9039 ?_
              case y9039 => (intro w hSw; (try dsimp only at hSw); go_simp; (try with_reducible rfl))
              try simp only [Act.put, List.setIfInBounds_toArray, List.set_cons_zero, List.set_cons_succ]
              refine take_on (i := 7) (v := ?v9040) rfl (by kernel_rfl) (by kernel_rfl) (by kernel_rfl) (fun _ _ _ h => h) (by rfl) (by assumption) ?y9040 ?_
              case y9040 => (intro w hSw; (try dsimp only at hSw); go_simp; (try with_reducible rfl))
              try simp only [Act.put, List.setIfInBounds_toArray, List.set_cons_zero, List.set_cons_succ]
              refine take_on (i := 8) (v := ?v9041) rfl (by kernel_rfl) (by kernel_rfl) (by kernel_rfl) (fun _ _ _ h => h) (by rfl) (by assumption) ?y9041 ?_
              case y9041 => (intro w hSw; (try dsimp only at hSw); go_simp; (try with_reducible rfl))
              try simp only [Act.put, List.setIfInBounds_toArray, List.set_cons_zero, List.set_cons_succ]
              refine take_on (i := 11) (v := ?v9042) rfl (by kernel_rfl) (by kernel_rfl) (by kernel_rfl) (fun _ _ _ h => h) (by rfl) (by assumption) ?y9042 ?_
              case y9042 => (intro w hSw; (try dsimp only at hSw); go_simp; (try with_reducible rfl))
              try simp only [Act.put, List.setIfInBounds_toArray, List.set_cons_zero, List.set_cons_succ]
              refine take_on (i := 12) (v := ?v9043) rfl (by kernel_rfl) (by kernel_rfl) (by kernel_rfl) (fun _ _ _ h => h) (by rfl) (by assumption) ?y9043 ?_
              case y9043 => (intro w hSw; (try dsimp only at hSw); go_simp; (try with_reducible rfl))
              try simp only [Act.put, List.setIfInBounds_toArray, List.set_cons_zero, List.set_cons_succ]
              refine take_on (i := 13) (v := ?v9044) rfl (by kernel_rfl) (by kernel_rfl) (by kernel_rfl) (fun _ _ _ h => h) (by rfl) (by assumption) ?y9044 ?_
              case y9044 => (intro w hSw; (try dsimp only at hSw); go_simp; (try with_reducible rfl))
              try simp only [Act.put, List.setIfInBounds_toArray, List.set_cons_zero, List.set_cons_succ]
              refine two_readyN (i := 0) (j := 9) rfl rfl (by kernel_rfl) (by rfl) (by rfl) (fun K hK => ?_) (fun K hK => ?_)
              · have hA9052 := Lib.hid hHeld.1
                go_simp
                refine hK.out _ _ (HSX.out _ (by first | exact Aft.alloc hA9052.out _ | exact Aft.alloc (Below.drew hA9052.out) _)) (fun hHeld => ?_)
                clear hK K
                try simp only [Act.put, List.setIfInBounds_toArray, List.set_cons_zero, List.set_cons_succ]
                first | have ho9 := own_weak (own_new hHeld.1) (show wq.heap.size ≤ _ from by first | exact Nat.le_refl _ | (simp; done) | (show _ ≤ (World.alloc _ _).heap.size; simp)) | have ho9 := own_weak (own_newD hHeld.1) (show wq.heap.size ≤ _ from by first | exact Nat.le_refl _ | (simp; done) | (show _ ≤ (World.alloc _ _).heap.size; simp))
                try simp only [World.size_alloc] at ho9
                have HO := Lib.hid ho9
                clear ho9
                have HOF := Lib.hid (fun W' (a : Aft _ W') => row_aft HO.out a)
                refine two_readyN (i := 4) (j := 9) rfl rfl (by kernel_rfl) (by rfl) (by rfl) (fun K hK => ?_) (fun K hK => ?_)
                · have hA2 := Lib.hid hHeld.1
                  refine wp_append_any _ _ 22 rfl wq.heap.size 9 i0 _ 1 16 Tryd.underlying22 hi0 hz0 hz1' hz2' rfl (by decide) _ _ _ rfl (HOF.out _ (by first | exact Aft.refl _ | exact Below.drew (Aft.refl _) | exact (Aft.refl _).alloc _ | exact Below.drew ((Aft.refl _).alloc _) | exact Aft.alloc (Below.drew (Aft.refl _)) _ | exact Below.drew (Aft.alloc (Below.drew (Aft.refl _)) _))) (some ⟨g, 0, none⟩) k k ((L.take k).map sV) rfl (by rw [List.length_map, RT.out.len, Nat.mul_one]) (fun e => (by cases e)) (fun ad e => by cases e; exact news_of (RT.out.aft (by first | exact hA2.out | exact Below.drew hA2.out))) (map_one (fun _ => rfl) _) (by unfold maxLen; omega) (by omega) (by first | exact hA2.out.size | exact Below.size (Below.drew hA2.out)) (fun v1 wn own1 grow1 => ?_)
                  have hAn := Lib.hid (show Aft wq wn from (by first | exact hA2.out.grown grow1 (fun k e => (HO.out.lt k e).1) | exact (show Aft wq _ from Below.drew hA2.out).grown grow1 (fun k e => (HO.out.lt k e).1)))
                  have HO1 := Lib.hid own1
                  have HO1F := Lib.hid (fun W' (a : Aft _ W') => row_aft HO1.out a)
                  clear own1 grow1
                  try go_simp
                  refine hK.out _ _ (HSX.out _ hAn.out) (fun hHeld => ?_)
                  clear hK K
                  try simp only [Act.put, List.setIfInBounds_toArray, List.set_cons_zero, List.set_cons_succ]
                  refine one_ready (i := 9) rfl (by kernel_rfl) (by rfl) (fun K hK => ?_)
                  have hA9045 := Lib.hid hHeld.1
                  go_simp
                  refine hK.out _ _ (HSX.out _ (by first | exact Aft.alloc hA9045.out _ | exact Aft.alloc (Below.drew hA9045.out) _)) (fun hHeld => ?_)
                  clear hK K
                  try simp only [Act.put, List.setIfInBounds_toArray, List.set_cons_zero, List.set_cons_succ]
                  first | have hle9 := le_new hHeld.1 | have hle9 := le_newD hHeld.1
                  try simp only [World.size_alloc] at hle9
                  have HLE := Lib.hid hle9
                  clear hle9
                  have HLF := Lib.hid (fun W' (a : Aft _ W') => a.cell HLE.out)
                  refine one_ready (i := 10) rfl (by kernel_rfl) (by rfl) (fun K hK => ?_)
                  have hA6 := Lib.hid hHeld.1
                  refine wp_append_any _ _ 22 rfl wq.heap.size 9 i0 _ 1 16 Tryd.underlying22 hi0 hz0 hz1' hz2' rfl (by decide) _ _ _ rfl (HO1F.out _ (by first | exact Aft.refl _ | exact Below.drew (Aft.refl _) | exact (Aft.refl _).alloc _ | exact Below.drew ((Aft.refl _).alloc _) | exact Aft.alloc (Below.drew (Aft.refl _)) _ | exact Below.drew (Aft.alloc (Below.drew (Aft.refl _)) _))) (some ⟨_, 0, none⟩) 1 1 ([s].map sV) rfl rfl (fun e => (by cases e)) (fun ad e => by cases e; exact news_of (row1 (HLF.out _ (by first | exact Aft.refl _ | exact Below.drew (Aft.refl _) | exact (Aft.refl _).alloc _ | exact Below.drew ((Aft.refl _).alloc _) | exact Aft.alloc (Below.drew (Aft.refl _)) _ | exact Below.drew (Aft.alloc (Below.drew (Aft.refl _)) _))))) (map_one (fun _ => rfl) _) (by unfold maxLen; omega) (by omega) (by first | exact hA6.out.size | exact Below.size (Below.drew hA6.out)) (fun v2 wn own2 grow2 => ?_)
                  have hAm := Lib.hid (show Aft wq wn from (by first | exact hA6.out.grown grow2 (fun k e => (HO1.out.lt k e).1) | exact (show Aft wq _ from Below.drew hA6.out).grown grow2 (fun k e => (HO1.out.lt k e).1)))
                  have HO3 := Lib.hid own2
                  have HO3F := Lib.hid (fun W' (a : Aft _ W') => row_aft HO3.out a)
                  clear own2 grow2
                  try go_simp
                  refine hK.out _ _ (HSX.out _ hAm.out) (fun hHeld => ?_)
                  clear hK K
                  try simp only [Act.put, List.setIfInBounds_toArray, List.set_cons_zero, List.set_cons_succ]
                  refine one_ready (i := 14) rfl (by kernel_rfl) (by rfl) (fun K hK => ?_)
                  have hA8 := Lib.hid hHeld.1
                  refine wp_append_any _ _ 22 rfl wq.heap.size 9 i0 _ 1 16 Tryd.underlying22 hi0 hz0 hz1' hz2' rfl (by decide) _ _ _ rfl (HO3F.out _ (by first | exact Aft.refl _ | exact Below.drew (Aft.refl _) | exact (Aft.refl _).alloc _ | exact Below.drew ((Aft.refl _).alloc _) | exact Aft.alloc (Below.drew (Aft.refl _)) _ | exact Below.drew (Aft.alloc (Below.drew (Aft.refl _)) _))) (some ⟨g, 0, none⟩) 0 0 ((L.drop k).map sV) rfl (by rw [List.length_map, RD.out.len, Nat.mul_one]) (fun e => (by cases e)) (fun ad e => by cases e; exact news_of (RD.out.aft (by first | exact hA8.out | exact Below.drew hA8.out))) (map_one (fun _ => rfl) _) (by unfold maxLen; omega) (by omega) (by first | exact hA8.out.size | exact Below.size (Below.drew hA8.out)) (fun v3 wn own3 grow3 => ?_)
                  have hAz := Lib.hid (show Aft wq wn from (by first | exact hA8.out.grown grow3 (fun k e => (HO3.out.lt k e).1) | exact (show Aft wq _ from Below.drew hA8.out).grown grow3 (fun k e => (HO3.out.lt k e).1)))
                  rw [show 0 + k + 1 + 0 = k + 1 by omega] at own3
                  obtain ⟨g', cap', rfl⟩ := row_succ own3
                  obtain ⟨Xz, qz, hvz, hXz⟩ := Rw.of_row (enc := sV) (l := L.take k ++ [s] ++ L.drop k) (by simpa using own3) (by have l1 := HLM.out; simp; omega)
                  cases hvz
                  have HXZ := Lib.hid hXz
                  clear own3 grow3 hXz
                  try go_simp
                  refine hK.out _ _ (HSX.out _ hAz.out) (fun hHeld => ?_)
                  clear hK K
                  try simp only [Act.put, List.setIfInBounds_toArray, List.set_cons_zero, List.set_cons_succ]
                  refine take_on (i := 15) (v := ?v9046) rfl (by kernel_rfl) (by kernel_rfl) (by kernel_rfl) (fun _ _ _ h => h) (by rfl) (by assumption) ?y9046 ?_
                  case y9046 => (intro w hSw; (try dsimp only at hSw); go_simp; (try with_reducible rfl))
                  try simp only [Act.put, List.setIfInBounds_toArray, List.set_cons_zero, List.set_cons_succ]
                  refine wpAnyH_done (by kernel_rfl) ?_ _
                  have HZZ := Lib.hid hHeld.1
                  clear hHeld HSX
                  go_wp2
                  go_roundw
                  case rel => exact ⟨q' + 1, g', _, k + 1, _, by omega, by go_num, rfl, by omega, HXZ.out.aft (by first | exact Aft.refl _ | exact Below.drew (Aft.refl _) | exact (Aft.refl _).alloc _ | exact Below.drew ((Aft.refl _).alloc _) | exact Aft.alloc (Below.drew (Aft.refl _)) _ | exact Below.drew (Aft.alloc (Below.drew (Aft.refl _)) _)), inv_ins HS.out HI.out HNB.out HLO.out HHI.out, HF.out.trans (HQ.out.trans (by first | exact HZZ.out | exact Below.drew HZZ.out))⟩
                  case measure => simp [intOf]; omega
                · have hA9047 := Lib.hid hHeld.1
                  go_simp
                  refine hK.out _ _ (HSX.out _ (by first | exact Aft.alloc hA9047.out _ | exact Aft.alloc (Below.drew hA9047.out) _)) (fun hHeld => ?_)
                  clear hK K
                  try simp only [Act.put, List.setIfInBounds_toArray, List.set_cons_zero, List.set_cons_succ]
                  first | have hle9 := le_new hHeld.1 | have hle9 := le_newD hHeld.1
                  try simp only [World.size_alloc] at hle9
                  have HLE := Lib.hid hle9
                  clear hle9
                  have HLF := Lib.hid (fun W' (a : Aft _ W') => a.cell HLE.out)
                  refine one_ready (i := 4) rfl (by kernel_rfl) (by rfl) (fun K hK => ?_)
                  have hA2 := Lib.hid hHeld.1
                  refine wp_append_any _ _ 22 rfl wq.heap.size 9 i0 _ 1 16 Tryd.underlying22 hi0 hz0 hz1' hz2' rfl (by decide) _ _ _ rfl (HOF.out _ (by first | exact Aft.refl _ | exact Below.drew (Aft.refl _) | exact (Aft.refl _).alloc _ | exact Below.drew ((Aft.refl _).alloc _) | exact Aft.alloc (Below.drew (Aft.refl _)) _ | exact Below.drew (Aft.alloc (Below.drew (Aft.refl _)) _))) (some ⟨g, 0, none⟩) k k ((L.take k).map sV) rfl (by rw [List.length_map, RT.out.len, Nat.mul_one]) (fun e => (by cases e)) (fun ad e => by cases e; exact news_of (RT.out.aft (by first | exact hA2.out | exact Below.drew hA2.out))) (map_one (fun _ => rfl) _) (by unfold maxLen; omega) (by omega) (by first | exact hA2.out.size | exact Below.size (Below.drew hA2.out)) (fun v1 wn own1 grow1 => ?_)
                  have hAn := Lib.hid (show Aft wq wn from (by first | exact hA2.out.grown grow1 (fun k e => (HO.out.lt k e).1) | exact (show Aft wq _ from Below.drew hA2.out).grown grow1 (fun k e => (HO.out.lt k e).1)))
                  have HLG := Lib.hid (grown_cell grow1 (HLF.out _ (by first | exact Aft.refl _ | exact Below.drew (Aft.refl _) | exact (Aft.refl _).alloc _ | exact Below.drew ((Aft.refl _).alloc _) | exact Aft.alloc (Below.drew (Aft.refl _)) _ | exact Below.drew (Aft.alloc (Below.drew (Aft.refl _)) _))) (fun h => by have h2 : some (wq.heap.size + 1) = some wq.heap.size := h; simp at h2))
                  have HLH := Lib.hid (fun W' (a : Aft _ W') => a.cell HLG.out)
                  have HO1 := Lib.hid own1
                  have HO1F := Lib.hid (fun W' (a : Aft _ W') => row_aft HO1.out a)
                  clear own1 grow1
                  try go_simp
                  refine hK.out _ _ (HSX.out _ hAn.out) (fun hHeld => ?_)
                  clear hK K
                  try simp only [Act.put, List.setIfInBounds_toArray, List.set_cons_zero, List.set_cons_succ]
                  refine one_ready (i := 10) rfl (by kernel_rfl) (by rfl) (fun K hK => ?_)
                  have hA6 := Lib.hid hHeld.1
                  refine wp_append_any _ _ 22 rfl wq.heap.size 9 i0 _ 1 16 Tryd.underlying22 hi0 hz0 hz1' hz2' rfl (by decide) _ _ _ rfl (HO1F.out _ (by first | exact Aft.refl _ | exact Below.drew (Aft.refl _) | exact (Aft.refl _).alloc _ | exact Below.drew ((Aft.refl _).alloc _) | exact Aft.alloc (Below.drew (Aft.refl _)) _ | exact Below.drew (Aft.alloc (Below.drew (Aft.refl _)) _))) (some ⟨_, 0, none⟩) 1 1 ([s].map sV) rfl rfl (fun e => (by cases e)) (fun ad e => by cases e; exact news_of (row1 (HLH.out _ (by first | exact Aft.refl _ | exact Below.drew (Aft.refl _) | exact (Aft.refl _).alloc _ | exact Below.drew ((Aft.refl _).alloc _) | exact Aft.alloc (Below.drew (Aft.refl _)) _ | exact Below.drew (Aft.alloc (Below.drew (Aft.refl _)) _))))) (map_one (fun _ => rfl) _) (by unfold maxLen; omega) (by omega) (by first | exact hA6.out.size | exact Below.size (Below.drew hA6.out)) (fun v2 wn own2 grow2 => ?_)
                  have hAm := Lib.hid (show Aft wq wn from (by first | exact hA6.out.grown grow2 (fun k e => (HO1.out.lt k e).1) | exact (show Aft wq _ from Below.drew hA6.out).grown grow2 (fun k e => (HO1.out.lt k e).1)))
                  have HO3 := Lib.hid own2
                  have HO3F := Lib.hid (fun W' (a : Aft _ W') => row_aft HO3.out a)
                  clear own2 grow2
                  try go_simp
                  refine hK.out _ _ (HSX.out _ hAm.out) (fun hHeld => ?_)
                  clear hK K
                  try simp only [Act.put, List.setIfInBounds_toArray, List.set_cons_zero, List.set_cons_succ]
                  refine one_ready (i := 14) rfl (by kernel_rfl) (by rfl) (fun K hK => ?_)
                  have hA8 := Lib.hid hHeld.1
                  refine wp_append_any _ _ 22 rfl wq.heap.size 9 i0 _ 1 16 Tryd.underlying22 hi0 hz0 hz1' hz2' rfl (by decide) _ _ _ rfl (HO3F.out _ (by first | exact Aft.refl _ | exact Below.drew (Aft.refl _) | exact (Aft.refl _).alloc _ | exact Below.drew ((Aft.refl _).alloc _) | exact Aft.alloc (Below.drew (Aft.refl _)) _ | exact Below.drew (Aft.alloc (Below.drew (Aft.refl _)) _))) (some ⟨g, 0, none⟩) 0 0 ((L.drop k).map sV) rfl (by rw [List.length_map, RD.out.len, Nat.mul_one]) (fun e => (by cases e)) (fun ad e => by cases e; exact news_of (RD.out.aft (by first | exact hA8.out | exact Below.drew hA8.out))) (map_one (fun _ => rfl) _) (by unfold maxLen; omega) (by omega) (by first | exact hA8.out.size | exact Below.size (Below.drew hA8.out)) (fun v3 wn own3 grow3 => ?_)
                  have hAz := Lib.hid (show Aft wq wn from (by first | exact hA8.out.grown grow3 (fun k e => (HO3.out.lt k e).1) | exact (show Aft wq _ from Below.drew hA8.out).grown grow3 (fun k e => (HO3.out.lt k e).1)))
                  rw [show 0 + k + 1 + 0 = k + 1 by omega] at own3
                  obtain ⟨g', cap', rfl⟩ := row_succ own3
                  obtain ⟨Xz, qz, hvz, hXz⟩ := Rw.of_row (enc := sV) (l := L.take k ++ [s] ++ L.drop k) (by simpa using own3) (by have l1 := HLM.out; simp; omega)
                  cases hvz
                  have HXZ := Lib.hid hXz
                  clear own3 grow3 hXz
                  try go_simp
                  refine hK.out _ _ (HSX.out _ hAz.out) (fun hHeld => ?_)
                  clear hK K
                  try simp only [Act.put, List.setIfInBounds_toArray, List.set_cons_zero, List.set_cons_succ]
                  refine take_on (i := 15) (v := ?v9048) rfl (by kernel_rfl) (by kernel_rfl) (by kernel_rfl) (fun _ _ _ h => h) (by rfl) (by assumption) ?y9048 ?_
                  case y9048 => (intro w hSw; (try dsimp only at hSw); go_simp; (try with_reducible rfl))
                  try simp only [Act.put, List.setIfInBounds_toArray, List.set_cons_zero, List.set_cons_succ]
                  refine wpAnyH_done (by kernel_rfl) ?_ _
                  have HZZ := Lib.hid hHeld.1
                  clear hHeld HSX
                  go_wp2
                  go_roundw
                  case rel => exact ⟨q' + 1, g', _, k + 1, _, by omega, by go_num, rfl, by omega, HXZ.out.aft (by first | exact Aft.refl _ | exact Below.drew (Aft.refl _) | exact (Aft.refl _).alloc _ | exact Below.drew ((Aft.refl _).alloc _) | exact Aft.alloc (Below.drew (Aft.refl _)) _ | exact Below.drew (Aft.alloc (Below.drew (Aft.refl _)) _)), inv_ins HS.out HI.out HNB.out HLO.out HHI.out, HF.out.trans (HQ.out.trans (by first | exact HZZ.out | exact Below.drew HZZ.out))⟩
                  case measure => simp [intOf]; omega
              · have hA9049 := Lib.hid hHeld.1
                go_simp
                refine hK.out _ _ (HSX.out _ (by first | exact Aft.alloc hA9049.out _ | exact Aft.alloc (Below.drew hA9049.out) _)) (fun hHeld => ?_)
                clear hK K
                try simp only [Act.put, List.setIfInBounds_toArray, List.set_cons_zero, List.set_cons_succ]
                first | have hle9 := le_new hHeld.1 | have hle9 := le_newD hHeld.1
                try simp only [World.size_alloc] at hle9
                have HLE := Lib.hid hle9
                clear hle9
                have HLF := Lib.hid (fun W' (a : Aft _ W') => a.cell HLE.out)
                refine one_ready (i := 0) rfl (by kernel_rfl) (by rfl) (fun K hK => ?_)
                have hA9050 := Lib.hid hHeld.1
                go_simp
                refine hK.out _ _ (HSX.out _ (by first | exact Aft.alloc hA9050.out _ | exact Aft.alloc (Below.drew hA9050.out) _)) (fun hHeld => ?_)
                clear hK K
                try simp only [Act.put, List.setIfInBounds_toArray, List.set_cons_zero, List.set_cons_succ]
                first | have ho9 := own_weak (own_new hHeld.1) (show wq.heap.size ≤ _ from by first | exact Nat.le_refl _ | (simp; done) | (show _ ≤ (World.alloc _ _).heap.size; simp)) | have ho9 := own_weak (own_newD hHeld.1) (show wq.heap.size ≤ _ from by first | exact Nat.le_refl _ | (simp; done) | (show _ ≤ (World.alloc _ _).heap.size; simp))
                try simp only [World.size_alloc] at ho9
                have HO := Lib.hid ho9
                clear ho9
                have HOF := Lib.hid (fun W' (a : Aft _ W') => row_aft HO.out a)
                refine one_ready (i := 4) rfl (by kernel_rfl) (by rfl) (fun K hK => ?_)
                have hA2 := Lib.hid hHeld.1
                refine wp_append_any _ _ 22 rfl wq.heap.size 9 i0 _ 1 16 Tryd.underlying22 hi0 hz0 hz1' hz2' rfl (by decide) _ _ _ rfl (HOF.out _ (by first | exact Aft.refl _ | exact Below.drew (Aft.refl _) | exact (Aft.refl _).alloc _ | exact Below.drew ((Aft.refl _).alloc _) | exact Aft.alloc (Below.drew (Aft.refl _)) _ | exact Below.drew (Aft.alloc (Below.drew (Aft.refl _)) _))) (some ⟨g, 0, none⟩) k k ((L.take k).map sV) rfl (by rw [List.length_map, RT.out.len, Nat.mul_one]) (fun e => (by cases e)) (fun ad e => by cases e; exact news_of (RT.out.aft (by first | exact hA2.out | exact Below.drew hA2.out))) (map_one (fun _ => rfl) _) (by unfold maxLen; omega) (by omega) (by first | exact hA2.out.size | exact Below.size (Below.drew hA2.out)) (fun v1 wn own1 grow1 => ?_)
                have hAn := Lib.hid (show Aft wq wn from (by first | exact hA2.out.grown grow1 (fun k e => (HO.out.lt k e).1) | exact (show Aft wq _ from Below.drew hA2.out).grown grow1 (fun k e => (HO.out.lt k e).1)))
                have HLG := Lib.hid (grown_cell grow1 (HLF.out _ (by first | exact Aft.refl _ | exact Below.drew (Aft.refl _) | exact (Aft.refl _).alloc _ | exact Below.drew ((Aft.refl _).alloc _) | exact Aft.alloc (Below.drew (Aft.refl _)) _ | exact Below.drew (Aft.alloc (Below.drew (Aft.refl _)) _))) (fun h => by have h2 : some wq.heap.size = some (wq.heap.size + 1) := h; simp at h2))
                have HLH := Lib.hid (fun W' (a : Aft _ W') => a.cell HLG.out)
                have HO1 := Lib.hid own1
                have HO1F := Lib.hid (fun W' (a : Aft _ W') => row_aft HO1.out a)
                clear own1 grow1
                try go_simp
                refine hK.out _ _ (HSX.out _ hAn.out) (fun hHeld => ?_)
                clear hK K
                try simp only [Act.put, List.setIfInBounds_toArray, List.set_cons_zero, List.set_cons_succ]
                refine one_ready (i := 10) rfl (by kernel_rfl) (by rfl) (fun K hK => ?_)
                have hA6 := Lib.hid hHeld.1
                refine wp_append_any _ _ 22 rfl wq.heap.size 9 i0 _ 1 16 Tryd.underlying22 hi0 hz0 hz1' hz2' rfl (by decide) _ _ _ rfl (HO1F.out _ (by first | exact Aft.refl _ | exact Below.drew (Aft.refl _) | exact (Aft.refl _).alloc _ | exact Below.drew ((Aft.refl _).alloc _) | exact Aft.alloc (Below.drew (Aft.refl _)) _ | exact Below.drew (Aft.alloc (Below.drew (Aft.refl _)) _))) (some ⟨_, 0, none⟩) 1 1 ([s].map sV) rfl rfl (fun e => (by cases e)) (fun ad e => by cases e; exact news_of (row1 (HLH.out _ (by first | exact Aft.refl _ | exact Below.drew (Aft.refl _) | exact (Aft.refl _).alloc _ | exact Below.drew ((Aft.refl _).alloc _) | exact Aft.alloc (Below.drew (Aft.refl _)) _ | exact Below.drew (Aft.alloc (Below.drew (Aft.refl _)) _))))) (map_one (fun _ => rfl) _) (by unfold maxLen; omega) (by omega) (by first | exact hA6.out.size | exact Below.size (Below.drew hA6.out)) (fun v2 wn own2 grow2 => ?_)
                have hAm := Lib.hid (show Aft wq wn from (by first | exact hA6.out.grown grow2 (fun k e => (HO1.out.lt k e).1) | exact (show Aft wq _ from Below.drew hA6.out).grown grow2 (fun k e => (HO1.out.lt k e).1)))
                have HO3 := Lib.hid own2
                have HO3F := Lib.hid (fun W' (a : Aft _ W') => row_aft HO3.out a)
                clear own2 grow2
                try go_simp
                refine hK.out _ _ (HSX.out _ hAm.out) (fun hHeld => ?_)
                clear hK K
                try simp only [Act.put, List.setIfInBounds_toArray, List.set_cons_zero, List.set_cons_succ]
                refine one_ready (i := 14) rfl (by kernel_rfl) (by rfl) (fun K hK => ?_)
                have hA8 := Lib.hid hHeld.1
                refine wp_append_any _ _ 22 rfl wq.heap.size 9 i0 _ 1 16 Tryd.underlying22 hi0 hz0 hz1' hz2' rfl (by decide) _ _ _ rfl (HO3F.out _ (by first | exact Aft.refl _ | exact Below.drew (Aft.refl _) | exact (Aft.refl _).alloc _ | exact Below.drew ((Aft.refl _).alloc _) | exact Aft.alloc (Below.drew (Aft.refl _)) _ | exact Below.drew (Aft.alloc (Below.drew (Aft.refl _)) _))) (some ⟨g, 0, none⟩) 0 0 ((L.drop k).map sV) rfl (by rw [List.length_map, RD.out.len, Nat.mul_one]) (fun e => (by cases e)) (fun ad e => by cases e; exact news_of (RD.out.aft (by first | exact hA8.out | exact Below.drew hA8.out))) (map_one (fun _ => rfl) _) (by unfold maxLen; omega) (by omega) (by first | exact hA8.out.size | exact Below.size (Below.drew hA8.out)) (fun v3 wn own3 grow3 => ?_)
                have hAz := Lib.hid (show Aft wq wn from (by first | exact hA8.out.grown grow3 (fun k e => (HO3.out.lt k e).1) | exact (show Aft wq _ from Below.drew hA8.out).grown grow3 (fun k e => (HO3.out.lt k e).1)))
                rw [show 0 + k + 1 + 0 = k + 1 by omega] at own3
                obtain ⟨g', cap', rfl⟩ := row_succ own3
                obtain ⟨Xz, qz, hvz, hXz⟩ := Rw.of_row (enc := sV) (l := L.take k ++ [s] ++ L.drop k) (by simpa using own3) (by have l1 := HLM.out; simp; omega)
                cases hvz
                have HXZ := Lib.hid hXz
                clear own3 grow3 hXz
                try go_simp
                refine hK.out _ _ (HSX.out _ hAz.out) (fun hHeld => ?_)
                clear hK K
                try simp only [Act.put, List.setIfInBounds_toArray, List.set_cons_zero, List.set_cons_succ]
                refine take_on (i := 15) (v := ?v9051) rfl (by kernel_rfl) (by kernel_rfl) (by kernel_rfl) (fun _ _ _ h => h) (by rfl) (by assumption) ?y9051 ?_
                case y9051 => (intro w hSw; (try dsimp only at hSw); go_simp; (try with_reducible rfl))
                try simp only [Act.put, List.setIfInBounds_toArray, List.set_cons_zero, List.set_cons_succ]
                refine wpAnyH_done (by kernel_rfl) ?_ _
                have HZZ := Lib.hid hHeld.1
                clear hHeld HSX
                go_wp2
                go_roundw
                case rel => exact ⟨q' + 1, g', _, k + 1, _, by omega, by go_num, rfl, by omega, HXZ.out.aft (by first | exact Aft.refl _ | exact Below.drew (Aft.refl _) | exact (Aft.refl _).alloc _ | exact Below.drew ((Aft.refl _).alloc _) | exact Aft.alloc (Below.drew (Aft.refl _)) _ | exact Below.drew (Aft.alloc (Below.drew (Aft.refl _)) _)), inv_ins HS.out HI.out HNB.out HLO.out HHI.out, HF.out.trans (HQ.out.trans (by first | exact HZZ.out | exact Below.drew HZZ.out))⟩
                case measure => simp [intOf]; omega
            · have hm25 : k ≤ 24 := by omega
              have hkc : (k : Int) ≤ (cap : Int) := by omega
              have hmc : (k : Int) ≤ (cap : Int) := by omega
              have hkmi : (k : Int) ≤ (k : Int) := by omega
              have hkmn : k ≤ k := hk
              have hkcn : k ≤ cap := by omega
              go_wp2
              go_quiet (fail)
              obtain ⟨nqa, hnqa⟩ : ∃ z, z = nq := ⟨_, rfl⟩
              rw [← hnqa]
              clear hnqa
              go_wp2
              go_quiet (fail)
              obtain ⟨nqb, hnqb⟩ : ∃ z, z = nq := ⟨_, rfl⟩
              rw [← hnqb]
              clear hnqb
              go_wp2
              obtain ⟨wq, hwq⟩ : ∃ wq : World, wq = (wr.drewN nqa).drewN nqb := ⟨_, rfl⟩
              have AQ : Aft wr wq := by rw [hwq]; exact ((Aft.refl _).drewN _).drewN _
              rw [← hwq]
              clear hwq
              have HQ := Lib.hid (HF2.out.trans AQ)
              have HBW := Lib.hid (HBX.out.aft (HA9.out.trans (HF.out.trans HQ.out)))
              have RT := Lib.hid ((HR.out.aft HQ.out).take' hk)
              have hrd := drop_rw (HR.out.aft HQ.out) hk
              rw [Nat.zero_add] at hrd
              simp only [Nat.sub_self] at hrd
              have RD := Lib.hid hrd
              have c3 := AQ.cell c2
              clear hrd AQ
              have HSX := Lib.hid (show ∀ w', Aft wq w' → (fun w' => Aft wq w' ∧ w'.cell? ⟨w.heap.size, 0, none⟩ = some (.int .i64 x.base) ∧ w'.cell? ⟨w.heap.size, 1, none⟩ = some (.slice x.da x.dn x.dc) ∧ w'.cell? ⟨w.heap.size, 2, none⟩ = some (.slice x.pa x.pn x.pc) ∧ w'.cell? ⟨w.heap.size, 3, none⟩ = some (.bool x.sf) ∧ w'.cell? ⟨w.heap.size, 4, none⟩ = some (.string x.jo) ∧ w'.cell? ⟨w.heap.size, 5, none⟩ = some (.int .i64 x.sub) ∧ w'.cell? ⟨w.heap.size, 6, none⟩ = some (.string x.le) ∧ w'.cell? ⟨w.heap.size, 7, none⟩ = some (.bool x.om) ∧ w'.cell? ⟨b, off + q', none⟩ = some (.string s)) w' from fun w' a => ⟨a, (HBW.out.aft a).c0, (HBW.out.aft a).c1, (HBW.out.aft a).c2, (HBW.out.aft a).c3, (HBW.out.aft a).c4, (HBW.out.aft a).c5, (HBW.out.aft a).c6, (HBW.out.aft a).c7, a.cell c3⟩)
              refine wp_region_held_drew (S := fun w' => Aft wq w' ∧ w'.cell? ⟨w.heap.size, 0, none⟩ = some (.int .i64 x.base) ∧ w'.cell? ⟨w.heap.size, 1, none⟩ = some (.slice x.da x.dn x.dc) ∧ w'.cell? ⟨w.heap.size, 2, none⟩ = some (.slice x.pa x.pn x.pc) ∧ w'.cell? ⟨w.heap.size, 3, none⟩ = some (.bool x.sf) ∧ w'.cell? ⟨w.heap.size, 4, none⟩ = some (.string x.jo) ∧ w'.cell? ⟨w.heap.size, 5, none⟩ = some (.int .i64 x.sub) ∧ w'.cell? ⟨w.heap.size, 6, none⟩ = some (.string x.le) ∧ w'.cell? ⟨w.heap.size, 7, none⟩ = some (.bool x.om) ∧ w'.cell? ⟨b, off + q', none⟩ = some (.string s)) (by kernel_rfl) (HSX.out _ (by first | exact Aft.refl _ | exact Below.drew (Aft.refl _) | exact (Aft.refl _).drewN _)) (fun hHeld => ?_)
              refine take_on (i := 1) (v := ?v9053) rfl (by kernel_rfl) (by kernel_rfl) (by kernel_rfl) (fun _ _ _ h => h) (by rfl) (by assumption) ?y9053 ?_
              case y9053 => (intro w hSw; (try dsimp only at hSw); go_simp; (try with_reducible rfl))
              try simp only [Act.put, List.setIfInBounds_toArray, List.set_cons_zero, List.set_cons_succ]
              refine take_on (i := 2) (v := ?v9054) rfl (by kernel_rfl) (by kernel_rfl) (by kernel_rfl) (fun _ _ _ h => h) (by rfl) (by assumption) ?y9054 ?_
              case y9054 => (intro w hSw; (try dsimp only at hSw); go_simp; (try with_reducible rfl))
              try simp only [Act.put, List.setIfInBounds_toArray, List.set_cons_zero, List.set_cons_succ]
              refine take_on (i := 3) (v := ?v9055) rfl (by kernel_rfl) (by kernel_rfl) (by kernel_rfl) (fun _ _ _ h => h) (by rfl) (by assumption) ?y9055 ?_
              case y9055 => (intro w hSw; (try dsimp only at hSw); go_simp; (try with_reducible rfl))
              try simp only [Act.put, List.setIfInBounds_toArray, List.set_cons_zero, List.set_cons_succ]
              refine take_on (i := 5) (v := ?v9056) rfl (by kernel_rfl) (by kernel_rfl) (by kernel_rfl) (fun _ _ _ h => h) (by rfl) (by assumption) ?y9056 ?_
              case y9056 => (intro w hSw; (try dsimp only at hSw); go_simp; (try with_reducible rfl))
              try simp only [Act.put, List.setIfInBounds_toArray, List.set_cons_zero, List.set_cons_succ]
              refine take_on (i := 6) (v := ?v9057) rfl (by kernel_rfl) (by kernel_rfl) (by kernel_rfl) (fun _ _ _ h => h) (by rfl) (by assumption) ?y9057 ?_
              case y9057 => (intro w hSw; (try dsimp only at hSw); go_simp; (try with_reducible rfl))
              try simp only [Act.put, List.setIfInBounds_toArray, List.set_cons_zero, List.set_cons_succ]
              refine take_on (i := 7) (v := ?v9058) rfl (by kernel_rfl) (by kernel_rfl) (by kernel_rfl) (fun _ _ _ h => h) (by rfl) (by assumption) ?y9058 ?_
              case y9058 => (intro w hSw; (try dsimp only at hSw); go_simp; (try with_reducible rfl))
              try simp only [Act.put, List.setIfInBounds_toArray, List.set_cons_zero, List.set_cons_succ]
              refine take_on (i := 8) (v := ?v9059) rfl (by kernel_rfl) (by kernel_rfl) (by kernel_rfl) (fun _ _ _ h => h) (by rfl) (by assumption) ?y9059 ?_
              case y9059 => (intro w hSw; (try dsimp only at hSw); go_simp; (try with_reducible rfl))
              try simp only [Act.put, List.setIfInBounds_toArray, List.set_cons_zero, List.set_cons_succ]
              refine take_on (i := 11) (v := ?v9060) rfl (by kernel_rfl) (by kernel_rfl) (by kernel_rfl) (fun _ _ _ h => h) (by rfl) (by assumption) ?y9060 ?_
              case y9060 => (intro w hSw; (try dsimp only at hSw); go_simp; (try with_reducible rfl))
              try simp only [Act.put, List.setIfInBounds_toArray, List.set_cons_zero, List.set_cons_succ]
              refine take_on (i := 12) (v := ?v9061) rfl (by kernel_rfl) (by kernel_rfl) (by kernel_rfl) (fun _ _ _ h => h) (by rfl) (by assumption) ?y9061 ?_
              case y9061 => (intro w hSw; (try dsimp only at hSw); go_simp; (try with_reducible rfl))
              try simp only [Act.put, List.setIfInBounds_toArray, List.set_cons_zero, List.set_cons_succ]
              refine take_on (i := 13) (v := ?v9062) rfl (by kernel_rfl) (by kernel_rfl) (by kernel_rfl) (fun _ _ _ h => h) (by rfl) (by assumption) ?y9062 ?_
              case y9062 => (intro w hSw; (try dsimp only at hSw); go_simp; (try with_reducible rfl))
              try simp only [Act.put, List.setIfInBounds_toArray, List.set_cons_zero, List.set_cons_succ]
              refine two_readyN (i := 0) (j := 9) rfl rfl (by kernel_rfl) (by rfl) (by rfl) (fun K hK => ?_) (fun K hK => ?_)
              · have hA9070 := Lib.hid hHeld.1
                go_simp
                refine hK.out _ _ (HSX.out _ (by first | exact Aft.alloc hA9070.out _ | exact Aft.alloc (Below.drew hA9070.out) _)) (fun hHeld => ?_)
                clear hK K
                try simp only [Act.put, List.setIfInBounds_toArray, List.set_cons_zero, List.set_cons_succ]
                first | have ho9 := own_weak (own_new hHeld.1) (show wq.heap.size ≤ _ from by first | exact Nat.le_refl _ | (simp; done) | (show _ ≤ (World.alloc _ _).heap.size; simp)) | have ho9 := own_weak (own_newD hHeld.1) (show wq.heap.size ≤ _ from by first | exact Nat.le_refl _ | (simp; done) | (show _ ≤ (World.alloc _ _).heap.size; simp))
                try simp only [World.size_alloc] at ho9
                have HO := Lib.hid ho9
                clear ho9
                have HOF := Lib.hid (fun W' (a : Aft _ W') => row_aft HO.out a)
                refine two_readyN (i := 4) (j := 9) rfl rfl (by kernel_rfl) (by rfl) (by rfl) (fun K hK => ?_) (fun K hK => ?_)
                · have hA2 := Lib.hid hHeld.1
                  refine wp_append_any _ _ 22 rfl wq.heap.size 9 i0 _ 1 16 Tryd.underlying22 hi0 hz0 hz1' hz2' rfl (by decide) _ _ _ rfl (HOF.out _ (by first | exact Aft.refl _ | exact Below.drew (Aft.refl _) | exact (Aft.refl _).alloc _ | exact Below.drew ((Aft.refl _).alloc _) | exact Aft.alloc (Below.drew (Aft.refl _)) _ | exact Below.drew (Aft.alloc (Below.drew (Aft.refl _)) _))) (some ⟨g, 0, none⟩) k cap ((L.take k).map sV) rfl (by rw [List.length_map, RT.out.len, Nat.mul_one]) (fun e => (by cases e)) (fun ad e => by cases e; exact news_of (RT.out.aft (by first | exact hA2.out | exact Below.drew hA2.out))) (map_one (fun _ => rfl) _) (by unfold maxLen; omega) (by omega) (by first | exact hA2.out.size | exact Below.size (Below.drew hA2.out)) (fun v1 wn own1 grow1 => ?_)
                  have hAn := Lib.hid (show Aft wq wn from (by first | exact hA2.out.grown grow1 (fun k e => (HO.out.lt k e).1) | exact (show Aft wq _ from Below.drew hA2.out).grown grow1 (fun k e => (HO.out.lt k e).1)))
                  have HO1 := Lib.hid own1
                  have HO1F := Lib.hid (fun W' (a : Aft _ W') => row_aft HO1.out a)
                  clear own1 grow1
                  try go_simp
                  refine hK.out _ _ (HSX.out _ hAn.out) (fun hHeld => ?_)
                  clear hK K
                  try simp only [Act.put, List.setIfInBounds_toArray, List.set_cons_zero, List.set_cons_succ]
                  refine one_ready (i := 9) rfl (by kernel_rfl) (by rfl) (fun K hK => ?_)
                  have hA9063 := Lib.hid hHeld.1
                  go_simp
                  refine hK.out _ _ (HSX.out _ (by first | exact Aft.alloc hA9063.out _ | exact Aft.alloc (Below.drew hA9063.out) _)) (fun hHeld => ?_)
                  clear hK K
                  try simp only [Act.put, List.setIfInBounds_toArray, List.set_cons_zero, List.set_cons_succ]
                  first | have hle9 := le_new hHeld.1 | have hle9 := le_newD hHeld.1
                  try simp only [World.size_alloc] at hle9
                  have HLE := Lib.hid hle9
                  clear hle9
                  have HLF := Lib.hid (fun W' (a : Aft _ W') => a.cell HLE.out)
                  refine one_ready (i := 10) rfl (by kernel_rfl) (by rfl) (fun K hK => ?_)
                  have hA6 := Lib.hid hHeld.1
                  refine wp_append_any _ _ 22 rfl wq.heap.size 9 i0 _ 1 16 Tryd.underlying22 hi0 hz0 hz1' hz2' rfl (by decide) _ _ _ rfl (HO1F.out _ (by first | exact Aft.refl _ | exact Below.drew (Aft.refl _) | exact (Aft.refl _).alloc _ | exact Below.drew ((Aft.refl _).alloc _) | exact Aft.alloc (Below.drew (Aft.refl _)) _ | exact Below.drew (Aft.alloc (Below.drew (Aft.refl _)) _))) (some ⟨_, 0, none⟩) 1 1 ([s].map sV) rfl rfl (fun e => (by cases e)) (fun ad e => by cases e; exact news_of (row1 (HLF.out _ (by first | exact Aft.refl _ | exact Below.drew (Aft.refl _) | exact (Aft.refl _).alloc _ | exact Below.drew ((Aft.refl _).alloc _) | exact Aft.alloc (Below.drew (Aft.refl _)) _ | exact Below.drew (Aft.alloc (Below.drew (Aft.refl _)) _))))) (map_one (fun _ => rfl) _) (by unfold maxLen; omega) (by omega) (by first | exact hA6.out.size | exact Below.size (Below.drew hA6.out)) (fun v2 wn own2 grow2 => ?_)
                  have hAm := Lib.hid (show Aft wq wn from (by first | exact hA6.out.grown grow2 (fun k e => (HO1.out.lt k e).1) | exact (show Aft wq _ from Below.drew hA6.out).grown grow2 (fun k e => (HO1.out.lt k e).1)))
                  have HO3 := Lib.hid own2
                  have HO3F := Lib.hid (fun W' (a : Aft _ W') => row_aft HO3.out a)
                  clear own2 grow2
                  try go_simp
                  refine hK.out _ _ (HSX.out _ hAm.out) (fun hHeld => ?_)
                  clear hK K
                  try simp only [Act.put, List.setIfInBounds_toArray, List.set_cons_zero, List.set_cons_succ]
                  refine one_ready (i := 14) rfl (by kernel_rfl) (by rfl) (fun K hK => ?_)
                  have hA8 := Lib.hid hHeld.1
                  refine wp_append_any _ _ 22 rfl wq.heap.size 9 i0 _ 1 16 Tryd.underlying22 hi0 hz0 hz1' hz2' rfl (by decide) _ _ _ rfl (HO3F.out _ (by first | exact Aft.refl _ | exact Below.drew (Aft.refl _) | exact (Aft.refl _).alloc _ | exact Below.drew ((Aft.refl _).alloc _) | exact Aft.alloc (Below.drew (Aft.refl _)) _ | exact Below.drew (Aft.alloc (Below.drew (Aft.refl _)) _))) (some ⟨g, k, none⟩) 0 (cap - k) ((L.drop k).map sV) rfl (by rw [List.length_map, RD.out.len, Nat.mul_one]) (fun e => (by cases e)) (fun ad e => by cases e; exact news_of (RD.out.aft (by first | exact hA8.out | exact Below.drew hA8.out))) (map_one (fun _ => rfl) _) (by unfold maxLen; omega) (by omega) (by first | exact hA8.out.size | exact Below.size (Below.drew hA8.out)) (fun v3 wn own3 grow3 => ?_)
                  have hAz := Lib.hid (show Aft wq wn from (by first | exact hA8.out.grown grow3 (fun k e => (HO3.out.lt k e).1) | exact (show Aft wq _ from Below.drew hA8.out).grown grow3 (fun k e => (HO3.out.lt k e).1)))
                  rw [show 0 + k + 1 + 0 = k + 1 by omega] at own3
                  obtain ⟨g', cap', rfl⟩ := row_succ own3
                  obtain ⟨Xz, qz, hvz, hXz⟩ := Rw.of_row (enc := sV) (l := L.take k ++ [s] ++ L.drop k) (by simpa using own3) (by have l1 := HLM.out; simp; omega)
                  cases hvz
                  have HXZ := Lib.hid hXz
                  clear own3 grow3 hXz
                  try go_simp
                  refine hK.out _ _ (HSX.out _ hAz.out) (fun hHeld => ?_)
                  clear hK K
                  try simp only [Act.put, List.setIfInBounds_toArray, List.set_cons_zero, List.set_cons_succ]
                  refine take_on (i := 15) (v := ?v9064) rfl (by kernel_rfl) (by kernel_rfl) (by kernel_rfl) (fun _ _ _ h => h) (by rfl) (by assumption) ?y9064 ?_
                  case y9064 => (intro w hSw; (try dsimp only at hSw); go_simp; (try with_reducible rfl))
                  try simp only [Act.put, List.setIfInBounds_toArray, List.set_cons_zero, List.set_cons_succ]
                  refine wpAnyH_done (by kernel_rfl) ?_ _
                  have HZZ := Lib.hid hHeld.1
                  clear hHeld HSX
                  go_wp2
                  go_roundw
                  case rel => exact ⟨q' + 1, g', _, k + 1, _, by omega, by go_num, rfl, by omega, HXZ.out.aft (by first | exact Aft.refl _ | exact Below.drew (Aft.refl _) | exact (Aft.refl _).alloc _ | exact Below.drew ((Aft.refl _).alloc _) | exact Aft.alloc (Below.drew (Aft.refl _)) _ | exact Below.drew (Aft.alloc (Below.drew (Aft.refl _)) _)), inv_ins HS.out HI.out HNB.out HLO.out HHI.out, HF.out.trans (HQ.out.trans (by first | exact HZZ.out | exact Below.drew HZZ.out))⟩
                  case measure => simp [intOf]; omega
                · have hA9065 := Lib.hid hHeld.1
                  go_simp
                  refine hK.out _ _ (HSX.out _ (by first | exact Aft.alloc hA9065.out _ | exact Aft.alloc (Below.drew hA9065.out) _)) (fun hHeld => ?_)
                  clear hK K
                  try simp only [Act.put, List.setIfInBounds_toArray, List.set_cons_zero, List.set_cons_succ]
                  first | have hle9 := le_new hHeld.1 | have hle9 := le_newD hHeld.1
                  try simp only [World.size_alloc] at hle9
                  have HLE := Lib.hid hle9
                  clear hle9
                  have HLF := Lib.hid (fun W' (a : Aft _ W') => a.cell HLE.out)
                  refine one_ready (i := 4) rfl (by kernel_rfl) (by rfl) (fun K hK => ?_)
                  have hA2 := Lib.hid hHeld.1
                  refine wp_append_any _ _ 22 rfl wq.heap.size 9 i0 _ 1 16 Tryd.underlying22 hi0 hz0 hz1' hz2' rfl (by decide) _ _ _ rfl (HOF.out _ (by first | exact Aft.refl _ | exact Below.drew (Aft.refl _) | exact (Aft.refl _).alloc _ | exact Below.drew ((Aft.refl _).alloc _) | exact Aft.alloc (Below.drew (Aft.refl _)) _ | exact Below.drew (Aft.alloc (Below.drew (Aft.refl _)) _))) (some ⟨g, 0, none⟩) k cap ((L.take k).map sV) rfl (by rw [List.length_map, RT.out.len, Nat.mul_one]) (fun e => (by cases e)) (fun ad e => by cases e; exact news_of (RT.out.aft (by first | exact hA2.out | exact Below.drew hA2.out))) (map_one (fun _ => rfl) _) (by unfold maxLen; omega) (by omega) (by first | exact hA2.out.size | exact Below.size (Below.drew hA2.out)) (fun v1 wn own1 grow1 => ?_)
                  have hAn := Lib.hid (show Aft wq wn from (by first | exact hA2.out.grown grow1 (fun k e => (HO.out.lt k e).1) | exact (show Aft wq _ from Below.drew hA2.out).grown grow1 (fun k e => (HO.out.lt k e).1)))
                  have HLG := Lib.hid (grown_cell grow1 (HLF.out _ (by first | exact Aft.refl _ | exact Below.drew (Aft.refl _) | exact (Aft.refl _).alloc _ | exact Below.drew ((Aft.refl _).alloc _) | exact Aft.alloc (Below.drew (Aft.refl _)) _ | exact Below.drew (Aft.alloc (Below.drew (Aft.refl _)) _))) (fun h => by have h2 : some (wq.heap.size + 1) = some wq.heap.size := h; simp at h2))
                  have HLH := Lib.hid (fun W' (a : Aft _ W') => a.cell HLG.out)
                  have HO1 := Lib.hid own1
                  have HO1F := Lib.hid (fun W' (a : Aft _ W') => row_aft HO1.out a)
                  clear own1 grow1
                  try go_simp
                  refine hK.out _ _ (HSX.out _ hAn.out) (fun hHeld => ?_)
                  clear hK K
                  try simp only [Act.put, List.setIfInBounds_toArray, List.set_cons_zero, List.set_cons_succ]
                  refine one_ready (i := 10) rfl (by kernel_rfl) (by rfl) (fun K hK => ?_)
                  have hA6 := Lib.hid hHeld.1
                  refine wp_append_any _ _ 22 rfl wq.heap.size 9 i0 _ 1 16 Tryd.underlying22 hi0 hz0 hz1' hz2' rfl (by decide) _ _ _ rfl (HO1F.out _ (by first | exact Aft.refl _ | exact Below.drew (Aft.refl _) | exact (Aft.refl _).alloc _ | exact Below.drew ((Aft.refl _).alloc _) | exact Aft.alloc (Below.drew (Aft.refl _)) _ | exact Below.drew (Aft.alloc (Below.drew (Aft.refl _)) _))) (some ⟨_, 0, none⟩) 1 1 ([s].map sV) rfl rfl (fun e => (by cases e)) (fun ad e => by cases e; exact news_of (row1 (HLH.out _ (by first | exact Aft.refl _ | exact Below.drew (Aft.refl _) | exact (Aft.refl _).alloc _ | exact Below.drew ((Aft.refl _).alloc _) | exact Aft.alloc (Below.drew (Aft.refl _)) _ | exact Below.drew (Aft.alloc (Below.drew (Aft.refl _)) _))))) (map_one (fun _ => rfl) _) (by unfold maxLen; omega) (by omega) (by first | exact hA6.out.size | exact Below.size (Below.drew hA6.out)) (fun v2 wn own2 grow2 => ?_)
                  have hAm := Lib.hid (show Aft wq wn from (by first | exact hA6.out.grown grow2 (fun k e => (HO1.out.lt k e).1) | exact (show Aft wq _ from Below.drew hA6.out).grown grow2 (fun k e => (HO1.out.lt k e).1)))
                  have HO3 := Lib.hid own2
                  have HO3F := Lib.hid (fun W' (a : Aft _ W') => row_aft HO3.out a)
                  clear own2 grow2
                  try go_simp
                  refine hK.out _ _ (HSX.out _ hAm.out) (fun hHeld => ?_)
                  clear hK K
                  try simp only [Act.put, List.setIfInBounds_toArray, List.set_cons_zero, List.set_cons_succ]
                  refine one_ready (i := 14) rfl (by kernel_rfl) (by rfl) (fun K hK => ?_)
                  have hA8 := Lib.hid hHeld.1
                  refine wp_append_any _ _ 22 rfl wq.heap.size 9 i0 _ 1 16 Tryd.underlying22 hi0 hz0 hz1' hz2' rfl (by decide) _ _ _ rfl (HO3F.out _ (by first | exact Aft.refl _ | exact Below.drew (Aft.refl _) | exact (Aft.refl _).alloc _ | exact Below.drew ((Aft.refl _).alloc _) | exact Aft.alloc (Below.drew (Aft.refl _)) _ | exact Below.drew (Aft.alloc (Below.drew (Aft.refl _)) _))) (some ⟨g, k, none⟩) 0 (cap - k) ((L.drop k).map sV) rfl (by rw [List.length_map, RD.out.len, Nat.mul_one]) (fun e => (by cases e)) (fun ad e => by cases e; exact news_of (RD.out.aft (by first | exact hA8.out | exact Below.drew hA8.out))) (map_one (fun _ => rfl) _) (by unfold maxLen; omega) (by omega) (by first | exact hA8.out.size | exact Below.size (Below.drew hA8.out)) (fun v3 wn own3 grow3 => ?_)
                  have hAz := Lib.hid (show Aft wq wn from (by first | exact hA8.out.grown grow3 (fun k e => (HO3.out.lt k e).1) | exact (show Aft wq _ from Below.drew hA8.out).grown grow3 (fun k e => (HO3.out.lt k e).1)))
                  rw [show 0 + k + 1 + 0 = k + 1 by omega] at own3
                  obtain ⟨g', cap', rfl⟩ := row_succ own3
                  obtain ⟨Xz, qz, hvz, hXz⟩ := Rw.of_row (enc := sV) (l := L.take k ++ [s] ++ L.drop k) (by simpa using own3) (by have l1 := HLM.out; simp; omega)
                  cases hvz
                  have HXZ := Lib.hid hXz
                  clear own3 grow3 hXz
                  try go_simp
                  refine hK.out _ _ (HSX.out _ hAz.out) (fun hHeld => ?_)
                  clear hK K
                  try simp only [Act.put, List.setIfInBounds_toArray, List.set_cons_zero, List.set_cons_succ]
                  refine take_on (i := 15) (v := ?v9066) rfl (by kernel_rfl) (by kernel_rfl) (by kernel_rfl) (fun _ _ _ h => h) (by rfl) (by assumption) ?y9066 ?_
                  case y9066 => (intro w hSw; (try dsimp only at hSw); go_simp; (try with_reducible rfl))
                  try simp only [Act.put, List.setIfInBounds_toArray, List.set_cons_zero, List.set_cons_succ]
                  refine wpAnyH_done (by kernel_rfl) ?_ _
                  have HZZ := Lib.hid hHeld.1
                  clear hHeld HSX
                  go_wp2
                  go_roundw
                  case rel => exact ⟨q' + 1, g', _, k + 1, _, by omega, by go_num, rfl, by omega, HXZ.out.aft (by first | exact Aft.refl _ | exact Below.drew (Aft.refl _) | exact (Aft.refl _).alloc _ | exact Below.drew ((Aft.refl _).alloc _) | exact Aft.alloc (Below.drew (Aft.refl _)) _ | exact Below.drew (Aft.alloc (Below.drew (Aft.refl _)) _)), inv_ins HS.out HI.out HNB.out HLO.out HHI.out, HF.out.trans (HQ.out.trans (by first | exact HZZ.out | exact Below.drew HZZ.out))⟩
                  case measure => simp [intOf]; omega
              · have hA9067 := Lib.hid hHeld.1
                go_simp
                refine hK.out _ _ (HSX.out _ (by first | exact Aft.alloc hA9067.out _ | exact Aft.alloc (Below.drew hA9067.out) _)) (fun hHeld => ?_)
                clear hK K
                try simp only [Act.put, List.setIfInBounds_toArray, List.set_cons_zero, List.set_cons_succ]
                first | have hle9 := le_new hHeld.1 | have hle9 := le_newD hHeld.1
                try simp only [World.size_alloc] at hle9
                have HLE := Lib.hid hle9
                clear hle9
                have HLF := Lib.hid (fun W' (a : Aft _ W') => a.cell HLE.out)
                refine one_ready (i := 0) rfl (by kernel_rfl) (by rfl) (fun K hK => ?_)
                have hA9068 := Lib.hid hHeld.1
                go_simp
                refine hK.out _ _ (HSX.out _ (by first | exact Aft.alloc hA9068.out _ | exact Aft.alloc (Below.drew hA9068.out) _)) (fun hHeld => ?_)
                clear hK K
                try simp only [Act.put, List.setIfInBounds_toArray, List.set_cons_zero, List.set_cons_succ]
                first | have ho9 := own_weak (own_new hHeld.1) (show wq.heap.size ≤ _ from by first | exact Nat.le_refl _ | (simp; done) | (show _ ≤ (World.alloc _ _).heap.size; simp)) | have ho9 := own_weak (own_newD hHeld.1) (show wq.heap.size ≤ _ from by first | exact Nat.le_refl _ | (simp; done) | (show _ ≤ (World.alloc _ _).heap.size; simp))
                try simp only [World.size_alloc] at ho9
                have HO := Lib.hid ho9
                clear ho9
                have HOF := Lib.hid (fun W' (a : Aft _ W') => row_aft HO.out a)
                refine one_ready (i := 4) rfl (by kernel_rfl) (by rfl) (fun K hK => ?_)
                have hA2 := Lib.hid hHeld.1
                refine wp_append_any _ _ 22 rfl wq.heap.size 9 i0 _ 1 16 Tryd.underlying22 hi0 hz0 hz1' hz2' rfl (by decide) _ _ _ rfl (HOF.out _ (by first | exact Aft.refl _ | exact Below.drew (Aft.refl _) | exact (Aft.refl _).alloc _ | exact Below.drew ((Aft.refl _).alloc _) | exact Aft.alloc (Below.drew (Aft.refl _)) _ | exact Below.drew (Aft.alloc (Below.drew (Aft.refl _)) _))) (some ⟨g, 0, none⟩) k cap ((L.take k).map sV) rfl (by rw [List.length_map, RT.out.len, Nat.mul_one]) (fun e => (by cases e)) (fun ad e => by cases e; exact news_of (RT.out.aft (by first | exact hA2.out | exact Below.drew hA2.out))) (map_one (fun _ => rfl) _) (by unfold maxLen; omega) (by omega) (by first | exact hA2.out.size | exact Below.size (Below.drew hA2.out)) (fun v1 wn own1 grow1 => ?_)
                have hAn := Lib.hid (show Aft wq wn from (by first | exact hA2.out.grown grow1 (fun k e => (HO.out.lt k e).1) | exact (show Aft wq _ from Below.drew hA2.out).grown grow1 (fun k e => (HO.out.lt k e).1)))
                have HLG := Lib.hid (grown_cell grow1 (HLF.out _ (by first | exact Aft.refl _ | exact Below.drew (Aft.refl _) | exact (Aft.refl _).alloc _ | exact Below.drew ((Aft.refl _).alloc _) | exact Aft.alloc (Below.drew (Aft.refl _)) _ | exact Below.drew (Aft.alloc (Below.drew (Aft.refl _)) _))) (fun h => by have h2 : some wq.heap.size = some (wq.heap.size + 1) := h; simp at h2))
                have HLH := Lib.hid (fun W' (a : Aft _ W') => a.cell HLG.out)
                have HO1 := Lib.hid own1
                have HO1F := Lib.hid (fun W' (a : Aft _ W') => row_aft HO1.out a)
                clear own1 grow1
                try go_simp
                refine hK.out _ _ (HSX.out _ hAn.out) (fun hHeld => ?_)
                clear hK K
                try simp only [Act.put, List.setIfInBounds_toArray, List.set_cons_zero, List.set_cons_succ]
                refine one_ready (i := 10) rfl (by kernel_rfl) (by rfl) (fun K hK => ?_)
                have hA6 := Lib.hid hHeld.1
                refine wp_append_any _ _ 22 rfl wq.heap.size 9 i0 _ 1 16 Tryd.underlying22 hi0 hz0 hz1' hz2' rfl (by decide) _ _ _ rfl (HO1F.out _ (by first | exact Aft.refl _ | exact Below.drew (Aft.refl _) | exact (Aft.refl _).alloc _ | exact Below.drew ((Aft.refl _).alloc _) | exact Aft.alloc (Below.drew (Aft.refl _)) _ | exact Below.drew (Aft.alloc (Below.drew (Aft.refl _)) _))) (some ⟨_, 0, none⟩) 1 1 ([s].map sV) rfl rfl (fun e => (by cases e)) (fun ad e => by cases e; exact news_of (row1 (HLH.out _ (by first | exact Aft.refl _ | exact Below.drew (Aft.refl _) | exact (Aft.refl _).alloc _ | exact Below.drew ((Aft.refl _).alloc _) | exact Aft.alloc (Below.drew (Aft.refl _)) _ | exact Below.drew (Aft.alloc (Below.drew (Aft.refl _)) _))))) (map_one (fun _ => rfl) _) (by unfold maxLen; omega) (by omega) (by first | exact hA6.out.size | exact Below.size (Below.drew hA6.out)) (fun v2 wn own2 grow2 => ?_)
                have hAm := Lib.hid (show Aft wq wn from (by first | exact hA6.out.grown grow2 (fun k e => (HO1.out.lt k e).1) | exact (show Aft wq _ from Below.drew hA6.out).grown grow2 (fun k e => (HO1.out.lt k e).1)))
                have HO3 := Lib.hid own2
                have HO3F := Lib.hid (fun W' (a : Aft _ W') => row_aft HO3.out a)
                clear own2 grow2
                try go_simp
                refine hK.out _ _ (HSX.out _ hAm.out) (fun hHeld => ?_)
                clear hK K
                try simp only [Act.put, List.setIfInBounds_toArray, List.set_cons_zero, List.set_cons_succ]
                refine one_ready (i := 14) rfl (by kernel_rfl) (by rfl) (fun K hK => ?_)
                have hA8 := Lib.hid hHeld.1
                refine wp_append_any _ _ 22 rfl wq.heap.size 9 i0 _ 1 16 Tryd.underlying22 hi0 hz0 hz1' hz2' rfl (by decide) _ _ _ rfl (HO3F.out _ (by first | exact Aft.refl _ | exact Below.drew (Aft.refl _) | exact (Aft.refl _).alloc _ | exact Below.drew ((Aft.refl _).alloc _) | exact Aft.alloc (Below.drew (Aft.refl _)) _ | exact Below.drew (Aft.alloc (Below.drew (Aft.refl _)) _))) (some ⟨g, k, none⟩) 0 (cap - k) ((L.drop k).map sV) rfl (by rw [List.length_map, RD.out.len, Nat.mul_one]) (fun e => (by cases e)) (fun ad e => by cases e; exact news_of (RD.out.aft (by first | exact hA8.out | exact Below.drew hA8.out))) (map_one (fun _ => rfl) _) (by unfold maxLen; omega) (by omega) (by first | exact hA8.out.size | exact Below.size (Below.drew hA8.out)) (fun v3 wn own3 grow3 => ?_)
                have hAz := Lib.hid (show Aft wq wn from (by first | exact hA8.out.grown grow3 (fun k e => (HO3.out.lt k e).1) | exact (show Aft wq _ from Below.drew hA8.out).grown grow3 (fun k e => (HO3.out.lt k e).1)))
                rw [show 0 + k + 1 + 0 = k + 1 by omega] at own3
                obtain ⟨g', cap', rfl⟩ := row_succ own3
                obtain ⟨Xz, qz, hvz, hXz⟩ := Rw.of_row (enc := sV) (l := L.take k ++ [s] ++ L.drop k) (by simpa using own3) (by have l1 := HLM.out; simp; omega)
                cases hvz
                have HXZ := Lib.hid hXz
                clear own3 grow3 hXz
                try go_simp
                refine hK.out _ _ (HSX.out _ hAz.out) (fun hHeld => ?_)
                clear hK K
                try simp only [Act.put, List.setIfInBounds_toArray, List.set_cons_zero, List.set_cons_succ]
                refine take_on (i := 15) (v := ?v9069) rfl (by kernel_rfl) (by kernel_rfl) (by kernel_rfl) (fun _ _ _ h => h) (by rfl) (by assumption) ?y9069 ?_
                case y9069 => (intro w hSw; (try dsimp only at hSw); go_simp; (try with_reducible rfl))
                try simp only [Act.put, List.setIfInBounds_toArray, List.set_cons_zero, List.set_cons_succ]
                refine wpAnyH_done (by kernel_rfl) ?_ _
                have HZZ := Lib.hid hHeld.1
                clear hHeld HSX
                go_wp2
                go_roundw
                case rel => exact ⟨q' + 1, g', _, k + 1, _, by omega, by go_num, rfl, by omega, HXZ.out.aft (by first | exact Aft.refl _ | exact Below.drew (Aft.refl _) | exact (Aft.refl _).alloc _ | exact Below.drew ((Aft.refl _).alloc _) | exact Aft.alloc (Below.drew (Aft.refl _)) _ | exact Below.drew (Aft.alloc (Below.drew (Aft.refl _)) _)), inv_ins HS.out HI.out HNB.out HLO.out HHI.out, HF.out.trans (HQ.out.trans (by first | exact HZZ.out | exact Below.drew HZZ.out))⟩
                case measure => simp [intOf]; omega
    · obtain rfl : q' = n := by omega
      have hqi : ¬ (q' : Int) < (q' : Int) := by omega
      have HV := Lib.hid (inv_end HI.out HRL.out)
      go_wp2
      go_ret
      exact ⟨⟨_, _, _, rfl, by rw [← HV.out]; exact HR.out⟩, HAM.out.trans (HA9.out.trans HF.out)⟩
end Go.Proofs.YtdehghmpfkhljaaDoor.Voc
