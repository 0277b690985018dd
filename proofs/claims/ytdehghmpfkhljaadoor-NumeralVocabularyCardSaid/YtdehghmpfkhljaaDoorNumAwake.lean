/-
  The system of the fixed example, and awake. Condition: the tables of unicode/utf8 lie as their texts say.
-/
import Derived.Test.YtdehghmpfkhljaaDoorNumPar
import Derived.Test.YtdehghmpfkhljaaDoorNumCmp
namespace Go.Proofs.YtdehghmpfkhljaaDoor
open Go.RowKit
open NumPlain

def exN (a b : Option Addr) : Nm := { base := 10, da := a, dn := 10, dc := 10, ds := [⟨#[122, 101, 114, 111]⟩, ⟨#[111, 110, 101]⟩, ⟨#[116, 119, 111]⟩, ⟨#[116, 104, 114, 101, 101]⟩, ⟨#[102, 111, 117, 114]⟩, ⟨#[102, 105, 118, 101]⟩, ⟨#[115, 105, 120]⟩, ⟨#[115, 101, 118, 101, 110]⟩, ⟨#[101, 105, 103, 104, 116]⟩, ⟨#[110, 105, 110, 101]⟩], pa := b, pn := 3, pc := 3, ps := [⟨#[116, 101, 110]⟩, ⟨#[104, 117, 110, 100, 114, 101, 100]⟩, ⟨#[116, 104, 111, 117, 115, 97, 110, 100]⟩], sf := false, jo := ⟨#[97, 110, 100]⟩, sub := 2, le := ⟨#[102, 114, 111, 109]⟩, om := false }
theorem ex1 (a b : Option Addr) : wordsV (exN a b) 199 = ([⟨#[111, 110, 101]⟩, ⟨#[102, 114, 111, 109]⟩, ⟨#[116, 119, 111]⟩, ⟨#[104, 117, 110, 100, 114, 101, 100]⟩], 0) := by kernel_rfl
theorem ex2 (a b : Option Addr) : wordsV (exN a b) 23 = ([⟨#[116, 119, 111]⟩, ⟨#[116, 101, 110]⟩, ⟨#[97, 110, 100]⟩, ⟨#[116, 104, 114, 101, 101]⟩], 0) := by kernel_rfl
theorem ex3 (a b : Option Addr) : validB (exN a b) = true := by kernel_rfl
theorem ex4 (a b : Option Addr) : parseV (exN a b) [⟨#[116, 119, 111]⟩, ⟨#[116, 101, 110]⟩, ⟨#[97, 110, 100]⟩, ⟨#[116, 104, 114, 101, 101]⟩] = [23] := by kernel_rfl
theorem ex5 (a b : Option Addr) : longV (exN a b) 27 = (11, 4) := by kernel_rfl
theorem ex6 (a b : Option Addr) : Sz (exN a b) := by
  constructor
  · intro s hs
    simp only [exN, List.mem_cons, List.not_mem_nil, or_false] at hs
    rcases hs with rfl | rfl | rfl | rfl | rfl | rfl | rfl | rfl | rfl | rfl <;> decide
  · intro s hs
    simp only [exN, List.mem_cons, List.not_mem_nil, or_false] at hs
    rcases hs with rfl | rfl | rfl <;> decide
  · exact (by decide : ByteArray.size ⟨#[97, 110, 100]⟩ ≤ 9223372036854775807)
  · exact (by decide : ByteArray.size ⟨#[102, 114, 111, 109]⟩ ≤ 9223372036854775807)
/-- What is known of the example. -/
structure Ex (x : Nm) : Prop where
  w1 : wordsV x 199 = ([⟨#[111, 110, 101]⟩, ⟨#[102, 114, 111, 109]⟩, ⟨#[116, 119, 111]⟩, ⟨#[104, 117, 110, 100, 114, 101, 100]⟩], 0)
  w2 : wordsV x 23 = ([⟨#[116, 119, 111]⟩, ⟨#[116, 101, 110]⟩, ⟨#[97, 110, 100]⟩, ⟨#[116, 104, 114, 101, 101]⟩], 0)
  val : validB x = true
  par : parseV x [⟨#[116, 119, 111]⟩, ⟨#[116, 101, 110]⟩, ⟨#[97, 110, 100]⟩, ⟨#[116, 104, 114, 101, 101]⟩] = [23]
  long : longV x 27 = (11, 4)
  sz : Sz x
def EnPost (w : World) (e : Ending) (w' : World) : Prop := ∃ x : Nm, e = .returned (nV x) ∧ Ex x ∧ Nw w' x ∧ Aft w w'

set_option maxRecDepth 100000 in
set_option maxHeartbeats 800000 in
theorem english_any (w : World) : Calls Tryd.prog 31 #[] w (EnPost w) := by
  have B1 : Aft (w.alloc (.cells #[.int .i64 10, .slice (some ⟨w.heap.size + 1, 0, none⟩) 10 10, .slice (some ⟨w.heap.size + 1 + 1, 0, none⟩) 3 3, .bool false, .string ⟨#[97, 110, 100]⟩, .int .i64 2, .string ⟨#[102, 114, 111, 109]⟩, .bool false] 24)) ((w.alloc (.cells #[.int .i64 10, .slice (some ⟨w.heap.size + 1, 0, none⟩) 10 10, .slice (some ⟨w.heap.size + 1 + 1, 0, none⟩) 3 3, .bool false, .string ⟨#[97, 110, 100]⟩, .int .i64 2, .string ⟨#[102, 114, 111, 109]⟩, .bool false] 24)).alloc (.cells #[.string ⟨#[122, 101, 114, 111]⟩, .string ⟨#[111, 110, 101]⟩, .string ⟨#[116, 119, 111]⟩, .string ⟨#[116, 104, 114, 101, 101]⟩, .string ⟨#[102, 111, 117, 114]⟩, .string ⟨#[102, 105, 118, 101]⟩, .string ⟨#[115, 105, 120]⟩, .string ⟨#[115, 101, 118, 101, 110]⟩, .string ⟨#[101, 105, 103, 104, 116]⟩, .string ⟨#[110, 105, 110, 101]⟩] 9)) := (Aft.refl _).alloc _
  have B2 : Aft ((w.alloc (.cells #[.int .i64 10, .slice (some ⟨w.heap.size + 1, 0, none⟩) 10 10, .slice (some ⟨w.heap.size + 1 + 1, 0, none⟩) 3 3, .bool false, .string ⟨#[97, 110, 100]⟩, .int .i64 2, .string ⟨#[102, 114, 111, 109]⟩, .bool false] 24)).alloc (.cells #[.string ⟨#[122, 101, 114, 111]⟩, .string ⟨#[111, 110, 101]⟩, .string ⟨#[116, 119, 111]⟩, .string ⟨#[116, 104, 114, 101, 101]⟩, .string ⟨#[102, 111, 117, 114]⟩, .string ⟨#[102, 105, 118, 101]⟩, .string ⟨#[115, 105, 120]⟩, .string ⟨#[115, 101, 118, 101, 110]⟩, .string ⟨#[101, 105, 103, 104, 116]⟩, .string ⟨#[110, 105, 110, 101]⟩] 9)) (((w.alloc (.cells #[.int .i64 10, .slice (some ⟨w.heap.size + 1, 0, none⟩) 10 10, .slice (some ⟨w.heap.size + 1 + 1, 0, none⟩) 3 3, .bool false, .string ⟨#[97, 110, 100]⟩, .int .i64 2, .string ⟨#[102, 114, 111, 109]⟩, .bool false] 24)).alloc (.cells #[.string ⟨#[122, 101, 114, 111]⟩, .string ⟨#[111, 110, 101]⟩, .string ⟨#[116, 119, 111]⟩, .string ⟨#[116, 104, 114, 101, 101]⟩, .string ⟨#[102, 111, 117, 114]⟩, .string ⟨#[102, 105, 118, 101]⟩, .string ⟨#[115, 105, 120]⟩, .string ⟨#[115, 101, 118, 101, 110]⟩, .string ⟨#[101, 105, 103, 104, 116]⟩, .string ⟨#[110, 105, 110, 101]⟩] 9)).alloc (.cells #[.string ⟨#[116, 101, 110]⟩, .string ⟨#[104, 117, 110, 100, 114, 101, 100]⟩, .string ⟨#[116, 104, 111, 117, 115, 97, 110, 100]⟩] 9)) := (Aft.refl _).alloc _
  have A3 : Aft w (((w.alloc (.cells #[.int .i64 10, .slice (some ⟨w.heap.size + 1, 0, none⟩) 10 10, .slice (some ⟨w.heap.size + 1 + 1, 0, none⟩) 3 3, .bool false, .string ⟨#[97, 110, 100]⟩, .int .i64 2, .string ⟨#[102, 114, 111, 109]⟩, .bool false] 24)).alloc (.cells #[.string ⟨#[122, 101, 114, 111]⟩, .string ⟨#[111, 110, 101]⟩, .string ⟨#[116, 119, 111]⟩, .string ⟨#[116, 104, 114, 101, 101]⟩, .string ⟨#[102, 111, 117, 114]⟩, .string ⟨#[102, 105, 118, 101]⟩, .string ⟨#[115, 105, 120]⟩, .string ⟨#[115, 101, 118, 101, 110]⟩, .string ⟨#[101, 105, 103, 104, 116]⟩, .string ⟨#[110, 105, 110, 101]⟩] 9)).alloc (.cells #[.string ⟨#[116, 101, 110]⟩, .string ⟨#[104, 117, 110, 100, 114, 101, 100]⟩, .string ⟨#[116, 104, 111, 117, 115, 97, 110, 100]⟩] 9)) := (((Aft.refl w).alloc _).alloc _).alloc _
  have hN : Nw (((w.alloc (.cells #[.int .i64 10, .slice (some ⟨w.heap.size + 1, 0, none⟩) 10 10, .slice (some ⟨w.heap.size + 1 + 1, 0, none⟩) 3 3, .bool false, .string ⟨#[97, 110, 100]⟩, .int .i64 2, .string ⟨#[102, 114, 111, 109]⟩, .bool false] 24)).alloc (.cells #[.string ⟨#[122, 101, 114, 111]⟩, .string ⟨#[111, 110, 101]⟩, .string ⟨#[116, 119, 111]⟩, .string ⟨#[116, 104, 114, 101, 101]⟩, .string ⟨#[102, 111, 117, 114]⟩, .string ⟨#[102, 105, 118, 101]⟩, .string ⟨#[115, 105, 120]⟩, .string ⟨#[115, 101, 118, 101, 110]⟩, .string ⟨#[101, 105, 103, 104, 116]⟩, .string ⟨#[110, 105, 110, 101]⟩] 9)).alloc (.cells #[.string ⟨#[116, 101, 110]⟩, .string ⟨#[104, 117, 110, 100, 114, 101, 100]⟩, .string ⟨#[116, 104, 111, 117, 115, 97, 110, 100]⟩] 9)) (exN (some ⟨w.heap.size + 1, 0, none⟩) (some ⟨w.heap.size + 1 + 1, 0, none⟩)) := ⟨by
      have h := (lit_rw (enc := sV) (w.alloc (.cells #[.int .i64 10, .slice (some ⟨w.heap.size + 1, 0, none⟩) 10 10, .slice (some ⟨w.heap.size + 1 + 1, 0, none⟩) 3 3, .bool false, .string ⟨#[97, 110, 100]⟩, .int .i64 2, .string ⟨#[102, 114, 111, 109]⟩, .bool false] 24)) 9 [⟨#[122, 101, 114, 111]⟩, ⟨#[111, 110, 101]⟩, ⟨#[116, 119, 111]⟩, ⟨#[116, 104, 114, 101, 101]⟩, ⟨#[102, 111, 117, 114]⟩, ⟨#[102, 105, 118, 101]⟩, ⟨#[115, 105, 120]⟩, ⟨#[115, 101, 118, 101, 110]⟩, ⟨#[101, 105, 103, 104, 116]⟩, ⟨#[110, 105, 110, 101]⟩] (by simp)).aft B2
      rw [World.size_alloc] at h
      exact h, by
      have h := lit_rw (enc := sV) ((w.alloc (.cells #[.int .i64 10, .slice (some ⟨w.heap.size + 1, 0, none⟩) 10 10, .slice (some ⟨w.heap.size + 1 + 1, 0, none⟩) 3 3, .bool false, .string ⟨#[97, 110, 100]⟩, .int .i64 2, .string ⟨#[102, 114, 111, 109]⟩, .bool false] 24)).alloc (.cells #[.string ⟨#[122, 101, 114, 111]⟩, .string ⟨#[111, 110, 101]⟩, .string ⟨#[116, 119, 111]⟩, .string ⟨#[116, 104, 114, 101, 101]⟩, .string ⟨#[102, 111, 117, 114]⟩, .string ⟨#[102, 105, 118, 101]⟩, .string ⟨#[115, 105, 120]⟩, .string ⟨#[115, 101, 118, 101, 110]⟩, .string ⟨#[101, 105, 103, 104, 116]⟩, .string ⟨#[110, 105, 110, 101]⟩] 9)) 9 [⟨#[116, 101, 110]⟩, ⟨#[104, 117, 110, 100, 114, 101, 100]⟩, ⟨#[116, 104, 111, 117, 115, 97, 110, 100]⟩] (by simp)
      rw [World.size_alloc, World.size_alloc] at h
      exact h⟩
  have HN := Lib.hid hN
  have HA := Lib.hid A3
  clear B1 B2 A3 hN
  go_enter Tryd.func31, Tryd.ntmps31
  go_wp2
  refine bodyPost_ret (v := nV (exN (some ⟨w.heap.size + 1, 0, none⟩) (some ⟨w.heap.size + 1 + 1, 0, none⟩))) (by simp [results, go_sem, exN]) rfl ?_
  exact ⟨_, rfl, ⟨ex1 _ _, ex2 _ _, ex3 _ _, ex4 _ _, ex5 _ _, ex6 _ _⟩, HN.out, HA.out⟩

set_option maxRecDepth 100000 in
set_option maxHeartbeats 1600000 in
theorem awake_any (w : World) (hT : Tabs w) : Calls Tryd.prog 14 #[] w (BoolPost w true) := by
  go_enter Tryd.func14, Tryd.ntmps14
  go_wp2_with fail
  refine (english_any w).mono ?_
  rintro e w1 ⟨x, rfl, hx, hw, N1⟩
  have AB : Aft w1 (w1.alloc (.cells (nC x) 24)) := (Aft.refl w1).alloc _
  have HBX := Lib.hid (Bx.new w1 x 24)
  have HX := Lib.hid hx
  have HT := Lib.hid (tabs_aft hT (N1.trans AB))
  have HW := Lib.hid (hw.aft AB)
  have HA := Lib.hid (N1.trans AB)
  clear hx hw hT N1
  obtain ⟨c0, c1, c2, c3, c4, c5, c6, c7⟩ := HBX.out
  go_wp2_with fail
  have h1 := words_any x 199 _ HT.out HW.out HX.out.sz
  rw [HX.out.w1] at h1
  refine h1.mono ?_
  rintro e w2 ⟨⟨X1, n1, k1, rfl, r1⟩, N2⟩
  clear h1 c0 c1 c2 c3 c4 c5 c6 c7
  have C2 : Aft (w1.alloc (.cells (nC x) 24)) w2 := N2
  have R1 := Lib.hid r1
  clear r1
  obtain ⟨c0, c1, c2, c3, c4, c5, c6, c7⟩ := (HBX.out.aft C2)
  go_wp2_with fail
  have h1 := words_any x 23 _ (tabs_aft HT.out C2) (HW.out.aft C2) HX.out.sz
  rw [HX.out.w2] at h1
  refine h1.mono ?_
  rintro e w3 ⟨⟨X2, n2, k2, rfl, r2⟩, N3⟩
  clear h1 c0 c1 c2 c3 c4 c5 c6 c7
  have C3 : Aft (w1.alloc (.cells (nC x) 24)) w3 := C2.trans N3
  have R2 := Lib.hid r2
  clear r2
  obtain ⟨c0, c1, c2, c3, c4, c5, c6, c7⟩ := (HBX.out.aft C3)
  go_wp2_with fail
  have h1 := longest_any x 27 _ (by decide) (tabs_aft HT.out C3) (HW.out.aft C3) HX.out.sz
  rw [HX.out.long] at h1
  refine h1.mono ?_
  rintro e w4 ⟨rfl, N4⟩
  clear h1 c0 c1 c2 c3 c4 c5 c6 c7
  have C4 : Aft (w1.alloc (.cells (nC x) 24)) w4 := C3.trans N4
  obtain ⟨c0, c1, c2, c3, c4, c5, c6, c7⟩ := (HBX.out.aft C4)
  go_wp2_with fail
  have h1 := valid_any x _ (tabs_aft HT.out C4) (HW.out.aft C4) HX.out.sz
  rw [HX.out.val] at h1
  refine h1.mono ?_
  rintro e w5 ⟨rfl, N5⟩
  clear h1 c0 c1 c2 c3 c4 c5 c6 c7
  have C5 : Aft (w1.alloc (.cells (nC x) 24)) w5 := C4.trans N5
  obtain ⟨c0, c1, c2, c3, c4, c5, c6, c7⟩ := (HBX.out.aft C5)
  go_wp2_with fail
  have h1 := greatest_any x _ (tabs_aft HT.out C5) (HW.out.aft C5) HX.out.sz
  rw [HX.out.val] at h1
  refine h1.mono ?_
  rintro e w6 ⟨rfl, N6⟩
  clear h1 c0 c1 c2 c3 c4 c5 c6 c7
  have C6 : Aft (w1.alloc (.cells (nC x) 24)) w6 := C5.trans N6
  have D1_6 := ((N3.trans N4).trans N5).trans N6
  have D2_6 := (N4.trans N5).trans N6
  have B6 : Aft w6 (w6.alloc (.cells #[.string ⟨#[111, 110, 101]⟩, .string ⟨#[102, 114, 111, 109]⟩, .string ⟨#[116, 119, 111]⟩, .string ⟨#[104, 117, 110, 100, 114, 101, 100]⟩] 9)) := (Aft.refl _).alloc _
  go_wp2_with fail
  have h1 := texts_any X1 n1 k1 [⟨#[111, 110, 101]⟩, ⟨#[102, 114, 111, 109]⟩, ⟨#[116, 119, 111]⟩, ⟨#[104, 117, 110, 100, 114, 101, 100]⟩] _ 4 4 [⟨#[111, 110, 101]⟩, ⟨#[102, 114, 111, 109]⟩, ⟨#[116, 119, 111]⟩, ⟨#[104, 117, 110, 100, 114, 101, 100]⟩] _ (R1.out.aft (D1_6.trans B6)) (lit_rw (enc := sV) w6 9 [⟨#[111, 110, 101]⟩, ⟨#[102, 114, 111, 109]⟩, ⟨#[116, 119, 111]⟩, ⟨#[104, 117, 110, 100, 114, 101, 100]⟩] (by simp))
  rw [decide_eq_true rfl] at h1
  refine h1.mono ?_
  rintro e w7 ⟨rfl, N7⟩
  clear h1
  have E7 := B6.trans N7
  clear B6 N7
  have C7 := C6.trans E7
  have D2_7 := D2_6.trans E7
  have B7 : Aft w7 (w7.alloc (.cells #[.string ⟨#[116, 119, 111]⟩, .string ⟨#[116, 101, 110]⟩, .string ⟨#[97, 110, 100]⟩, .string ⟨#[116, 104, 114, 101, 101]⟩] 9)) := (Aft.refl _).alloc _
  go_wp2_with fail
  have h1 := texts_any X2 n2 k2 [⟨#[116, 119, 111]⟩, ⟨#[116, 101, 110]⟩, ⟨#[97, 110, 100]⟩, ⟨#[116, 104, 114, 101, 101]⟩] _ 4 4 [⟨#[116, 119, 111]⟩, ⟨#[116, 101, 110]⟩, ⟨#[97, 110, 100]⟩, ⟨#[116, 104, 114, 101, 101]⟩] _ (R2.out.aft (D2_7.trans B7)) (lit_rw (enc := sV) w7 9 [⟨#[116, 119, 111]⟩, ⟨#[116, 101, 110]⟩, ⟨#[97, 110, 100]⟩, ⟨#[116, 104, 114, 101, 101]⟩] (by simp))
  rw [decide_eq_true rfl] at h1
  refine h1.mono ?_
  rintro e w8 ⟨rfl, N8⟩
  clear h1
  have E8 := B7.trans N8
  clear B7 N8
  have C8 := C7.trans E8
  have D2_8 := D2_7.trans E8
  obtain ⟨c0, c1, c2, c3, c4, c5, c6, c7⟩ := (HBX.out.aft C8)
  go_wp2_with fail
  have h1 := parse_any x X2 n2 k2 [⟨#[116, 119, 111]⟩, ⟨#[116, 101, 110]⟩, ⟨#[97, 110, 100]⟩, ⟨#[116, 104, 114, 101, 101]⟩] _ (tabs_aft HT.out C8) (HW.out.aft C8) HX.out.sz (R2.out.aft D2_8)
  rw [HX.out.par] at h1
  refine h1.mono ?_
  rintro e w9 ⟨⟨X9, n9, k9, rfl, r9⟩, N9⟩
  clear h1 c0 c1 c2 c3 c4 c5 c6 c7
  have R9 := Lib.hid r9
  clear r9
  have C9 := C8.trans N9
  have B9 : Aft w9 (w9.alloc (.cells #[.int .i64 23] 3)) := (Aft.refl _).alloc _
  go_wp2_with fail
  have h1 := ints_any X9 n9 k9 [23] _ 1 1 [23] _ (R9.out.aft B9) (lit_rw (enc := vI) w9 3 [23] (by simp))
  rw [decide_eq_true rfl] at h1
  refine h1.mono ?_
  rintro e w10 ⟨rfl, N10⟩
  clear h1
  have C10 := C9.trans (B9.trans N10)
  go_wp2
  go_ret
  exact ⟨rfl, HA.out.trans C10⟩
end Go.Proofs.YtdehghmpfkhljaaDoor
