/-
  given returns the stem or paradigm that is written; ParseLine the lexeme of a line of four parts. Conditions: the string divides into the four parts, and is the line of the lexeme that they say; it is no longer than 1000 bytes; internal/bytealg.MaxLen holds an integer.
-/
import Derived.Test.YtpkhoklahcgcoaaDoorLexLineW
import Derived.Laws.ResultCell
namespace Go.Proofs.YtpkhoklahcgcoaaDoor
open Go.RowKit
open FeatPlain

def givenS (s : ByteArray) : ByteArray := if s = dash then ⟨#[]⟩ else s
theorem given_any (s : ByteArray) (w : World) : Calls Tryd.prog 26 #[.string s] w (fun e w' => e = .returned (.string (givenS s)) ∧ w = w') := by
  have hd := dash_iff s
  by_cases h : s = dash
  · have HR := Lib.hid (show givenS s = ⟨#[]⟩ by simp [givenS, h])
    have h2 : (s.toList == [45]) = true := by rw [hd]; simp [h]
    clear h hd
    go_enter Tryd.func26, Tryd.ntmps26
    go_wp2
    go_ret
    exact ⟨by rw [HR.out]; rfl, rfl⟩
  · have HR := Lib.hid (show givenS s = s by simp [givenS, h])
    have h2 : (s.toList == [45]) = false := by rw [hd]; simp [h]
    clear h hd
    go_enter Tryd.func26, Tryd.ntmps26
    go_wp2
    go_ret
    exact ⟨by rw [HR.out]; rfl, rfl⟩

/-- internal/bytealg.MaxLen holds an integer. -/
def Mx (w : World) : Prop := ∃ m, w.cell? ⟨0, 0, none⟩ = some (.int .i64 m)
theorem Mx.aft {w w' : World} (h : Mx w) (k : Aft w w') : Mx w' := let ⟨m, hm⟩ := h; ⟨m, k.cell hm⟩

def lex4 (p0 p1 p2 p3 : ByteArray) : Lx := ⟨p0, p1, givenS p2, givenS p3, none, 0, 0, []⟩

theorem cells4 (w : World) (l : List ByteArray) (N : Nat) {p : Nat} (hp : w.heap.size = p) (j : Nat) (x : ByteArray) (h : l[j]? = some x) : (w.alloc (.cells (Lib.cellsOf l N) 9)).cell? ⟨p, j, none⟩ = some (.string x) := by
  subst hp
  have h1 : (Lib.cellsOf l N)[j]? = some (.string x) := by
    unfold Lib.cellsOf
    rw [List.getElem?_toArray, List.getElem?_append_left (by simpa using (List.getElem?_eq_some_iff.1 h).1), List.getElem?_map, h]
    rfl
  have hb : (w.alloc (.cells (Lib.cellsOf l N) 9)).heap[w.heap.size]? = some (.cells (Lib.cellsOf l N) 9 (0, 0)) := World.alloc_heap_new _ _
  generalize w.alloc (.cells (Lib.cellsOf l N) 9) = W at hb ⊢
  simp [World.cell?, hb, h1]

set_option maxRecDepth 100000 in
set_option maxHeartbeats 3200000 in
theorem parse4_any (s p0 p1 p2 p3 : ByteArray) (w : World) (hm : Mx w) (hs : s.size ≤ 1000) (h4 : 4 ≤ s.size) (hp : Lib.splitB ⟨#[32]⟩ 0 4 s = [p0, p1, p2, p3]) (hw : Lw w (lex4 p0 p1 p2 p3)) (hc : Cany (givenS p2)) (hl : lineS (lex4 p0 p1 p2 p3) = s) (hl8 : (lineT (lex4 p0 p1 p2 p3)).size ≤ 1099511627776) :
    Calls Tryd.prog 10 #[.string s] w (fun e w' => e = .returned (.tuple #[.agg #[.string p0, .string p1, .string (givenS p2), .string (givenS p3), .slice none 0 0], .int .i64 0]) ∧ Aft w w') := by
  have B0 := BoxL.new w zeroL
  have A0 := (Aft.refl w).alloc (.cells #[.string ⟨#[]⟩, .string ⟨#[]⟩, .string ⟨#[]⟩, .string ⟨#[]⟩, .slice none 0 0] 24)
  obtain ⟨m, hmm⟩ := hm.aft A0
  have hmin : min 5 (s.size + 1) = 5 := by omega
  have hsp := Tryd.strings_SplitN s ⟨#[32]⟩ 5 m _ (by omega) hmm (by simp [ByteArray.size]) (by omega) (by omega)
  rw [hmin, show (5 : Nat) - 1 = 4 from rfl, hp] at hsp
  have HSP := Lib.hid hsp
  clear hsp hmm hmin hp hm
  go_enter Tryd.func10, Tryd.ntmps10
  go_wp2_with fail
  refine HSP.out.mono ?_
  rintro e W ⟨rfl, hW⟩
  clear HSP
  have q0 := cells4 (w.alloc (.cells #[.string ⟨#[]⟩, .string ⟨#[]⟩, .string ⟨#[]⟩, .string ⟨#[]⟩, .slice none 0 0] 24)) [p0, p1, p2, p3] 5 (p := w.heap.size + 1) (by simp) 0 p0 rfl
  have q1 := cells4 (w.alloc (.cells #[.string ⟨#[]⟩, .string ⟨#[]⟩, .string ⟨#[]⟩, .string ⟨#[]⟩, .slice none 0 0] 24)) [p0, p1, p2, p3] 5 (p := w.heap.size + 1) (by simp) 1 p1 rfl
  have q2 := cells4 (w.alloc (.cells #[.string ⟨#[]⟩, .string ⟨#[]⟩, .string ⟨#[]⟩, .string ⟨#[]⟩, .slice none 0 0] 24)) [p0, p1, p2, p3] 5 (p := w.heap.size + 1) (by simp) 2 p2 rfl
  have q3 := cells4 (w.alloc (.cells #[.string ⟨#[]⟩, .string ⟨#[]⟩, .string ⟨#[]⟩, .string ⟨#[]⟩, .slice none 0 0] 24)) [p0, p1, p2, p3] 5 (p := w.heap.size + 1) (by simp) 3 p3 rfl
  have AW : Aft w W := by rw [hW]; exact A0.alloc _
  have BW : BoxL W w.heap.size zeroL := by rw [hW]; exact B0.aft ((Aft.refl _).alloc _)
  have hWs : W.heap.size = w.heap.size + 1 + 1 := by rw [hW]; simp
  rw [← hW] at q0 q1 q2 q3
  have HWS := Lib.hid hWs
  have HBW := Lib.hid BW
  clear hW A0 B0 BW hWs
  go_wp2
  refine wp_region_held_drew (S := fun w' => w'.cell? ⟨w.heap.size + 1, 0, none⟩ = some (.string p0) ∧ w'.cell? ⟨w.heap.size + 1, 1, none⟩ = some (.string p1) ∧ w'.cell? ⟨w.heap.size + 1, 2, none⟩ = some (.string p2) ∧ w'.cell? ⟨w.heap.size + 1, 3, none⟩ = some (.string p3)) (by kernel_rfl) ⟨q0, q1, q2, q3⟩ (fun hHeld => ?_)
  refine take_on (i := 0) (v := ?v1015) rfl (by kernel_rfl) (by kernel_rfl) (by kernel_rfl) (fun _ _ _ h => h) (by rfl) (by assumption) ?y1015 ?_
  case y1015 => (intro w hSw; (try dsimp only at hSw); go_simp; (try with_reducible rfl))
  try simp only [Act.put, List.setIfInBounds_toArray, List.set_cons_zero, List.set_cons_succ]
  refine take_on (i := 1) (v := ?v1016) rfl (by kernel_rfl) (by kernel_rfl) (by kernel_rfl) (fun _ _ _ h => h) (by rfl) (by assumption) ?y1016 ?_
  case y1016 => (intro w hSw; (try dsimp only at hSw); go_simp; (try with_reducible rfl))
  try simp only [Act.put, List.setIfInBounds_toArray, List.set_cons_zero, List.set_cons_succ]
  refine take_on (i := 2) (v := ?v1017) rfl (by kernel_rfl) (by kernel_rfl) (by kernel_rfl) (fun _ _ _ h => h) (by rfl) (by assumption) ?y1017 ?_
  case y1017 => (intro w hSw; (try dsimp only at hSw); go_simp; (try with_reducible rfl))
  try simp only [Act.put, List.setIfInBounds_toArray, List.set_cons_zero, List.set_cons_succ]
  refine take_on (i := 3) (v := ?v1018) rfl (by kernel_rfl) (by kernel_rfl) (by kernel_rfl) (fun _ _ _ h => h) (by rfl) (by assumption) ?y1018 ?_
  case y1018 => (intro w hSw; (try dsimp only at hSw); go_simp; (try with_reducible rfl))
  try simp only [Act.put, List.setIfInBounds_toArray, List.set_cons_zero, List.set_cons_succ]
  refine take_on (i := 4) (v := ?v1019) rfl (by kernel_rfl) (by kernel_rfl) (by kernel_rfl) (fun _ _ _ h => h) (by rfl) (by assumption) ?y1019 ?_
  case y1019 => (intro w hSw; (try dsimp only at hSw); go_simp; (try with_reducible rfl))
  try simp only [Act.put, List.setIfInBounds_toArray, List.set_cons_zero, List.set_cons_succ]
  refine take_on (i := 5) (v := ?v1020) rfl (by kernel_rfl) (by kernel_rfl) (by kernel_rfl) (fun _ _ _ h => h) (by rfl) (by assumption) ?y1020 ?_
  case y1020 => (intro w hSw; (try dsimp only at hSw); go_simp; (try with_reducible rfl))
  try simp only [Act.put, List.setIfInBounds_toArray, List.set_cons_zero, List.set_cons_succ]
  refine take_on (i := 6) (v := ?v1021) rfl (by kernel_rfl) (by kernel_rfl) (by kernel_rfl) (fun _ _ _ h => h) (by rfl) (by assumption) ?y1021 ?_
  case y1021 => (intro w hSw; (try dsimp only at hSw); go_simp; (try with_reducible rfl))
  try simp only [Act.put, List.setIfInBounds_toArray, List.set_cons_zero, List.set_cons_succ]
  refine take_on (i := 7) (v := ?v1022) rfl (by kernel_rfl) (by kernel_rfl) (by kernel_rfl) (fun _ _ _ h => h) (by rfl) (by assumption) ?y1022 ?_
  case y1022 => (intro w hSw; (try dsimp only at hSw); go_simp; (try with_reducible rfl))
  try simp only [Act.put, List.setIfInBounds_toArray, List.set_cons_zero, List.set_cons_succ]
  refine take_on (i := 8) (v := ?v1023) rfl (by kernel_rfl) (by kernel_rfl) (by kernel_rfl) (fun _ _ _ h => h) (by rfl) (by assumption) ?y1023 ?_
  case y1023 => (intro w hSw; (try dsimp only at hSw); go_simp; (try with_reducible rfl))
  try simp only [Act.put, List.setIfInBounds_toArray, List.set_cons_zero, List.set_cons_succ]
  refine take_on (i := 10) (v := ?v1024) rfl (by kernel_rfl) (by kernel_rfl) (by kernel_rfl) (fun _ _ _ h => h) (by rfl) (by assumption) ?y1024 ?_
  case y1024 => (intro w hSw; (try dsimp only at hSw); go_simp; (try with_reducible rfl))
  try simp only [Act.put, List.setIfInBounds_toArray, List.set_cons_zero, List.set_cons_succ]
  refine take_on (i := 11) (v := ?v1025) rfl (by kernel_rfl) (by kernel_rfl) (by kernel_rfl) (fun _ _ _ h => h) (by rfl) (by assumption) ?y1025 ?_
  case y1025 => (intro w hSw; (try dsimp only at hSw); go_simp; (try with_reducible rfl))
  try simp only [Act.put, List.setIfInBounds_toArray, List.set_cons_zero, List.set_cons_succ]
  refine take_on (i := 12) (v := ?v1026) rfl (by kernel_rfl) (by kernel_rfl) (by kernel_rfl) (fun _ _ _ h => h) (by rfl) (by assumption) ?y1026 ?_
  case y1026 => (intro w hSw; (try dsimp only at hSw); go_simp; (try with_reducible rfl))
  try simp only [Act.put, List.setIfInBounds_toArray, List.set_cons_zero, List.set_cons_succ]
  have B0 := (Aft.refl W).drew
  refine two_readyL (i := 9) (j := 15) rfl rfl (by kernel_rfl) (by rfl) (by rfl) (fun K hK => ?_) (fun K hK => ?_)
  · go_simp
    refine (given_any p2 _).mono ?_
    rintro e w9 ⟨rfl, rfl⟩
    try go_simp
    refine hK.out _ _ (⟨B0.cell q0, B0.cell q1, B0.cell q2, B0.cell q3⟩) (fun hHeld => ?_)
    clear hK K
    try simp only [Act.put, List.setIfInBounds_toArray, List.set_cons_zero, List.set_cons_succ]
    refine two_readyL (i := 13) (j := 15) rfl rfl (by kernel_rfl) (by rfl) (by rfl) (fun K hK => ?_) (fun K hK => ?_)
    · go_simp
      refine (given_any p3 _).mono ?_
      rintro e w9 ⟨rfl, rfl⟩
      try go_simp
      refine hK.out _ _ (⟨B0.cell q0, B0.cell q1, B0.cell q2, B0.cell q3⟩) (fun hHeld => ?_)
      clear hK K
      try simp only [Act.put, List.setIfInBounds_toArray, List.set_cons_zero, List.set_cons_succ]
      refine take_on (i := 14) (v := ?v1027) rfl (by kernel_rfl) (by kernel_rfl) (by kernel_rfl) (fun _ _ _ h => h) (by rfl) (by assumption) ?y1027 ?_
      case y1027 => (intro w hSw; (try dsimp only at hSw); go_simp; (try with_reducible rfl))
      try simp only [Act.put, List.setIfInBounds_toArray, List.set_cons_zero, List.set_cons_succ]
      refine one_ready (i := 15) rfl (by kernel_rfl) (by rfl) (fun K hK => ?_)
      go_simp
      refine hK.out _ _ (⟨(B0.alloc _).cell q0, (B0.alloc _).cell q1, (B0.alloc _).cell q2, (B0.alloc _).cell q3⟩) (fun hHeld => ?_)
      clear hK K
      try simp only [Act.put, List.setIfInBounds_toArray, List.set_cons_zero, List.set_cons_succ]
      refine one_ready (i := 16) rfl (by kernel_rfl) (by rfl) (fun K hK => ?_)
      go_simp
      refine hK.out _ _ (⟨(B0.alloc _).cell q0, (B0.alloc _).cell q1, (B0.alloc _).cell q2, (B0.alloc _).cell q3⟩) (fun hHeld => ?_)
      clear hK K
      try simp only [Act.put]
      refine wpAnyH_done (by kernel_rfl) ?_ _
      have A2 : Aft W ((W.alloc (.cells #[.string p0, .string p1, .string (givenS p2), .string (givenS p3), .slice none 0 0] 24)).drew) := ((Aft.refl W).alloc _).drew
      have BY : BoxL ((W.alloc (.cells #[.string p0, .string p1, .string (givenS p2), .string (givenS p3), .slice none 0 0] 24)).drew) W.heap.size (lex4 p0 p1 p2 p3) := BoxL.new W (lex4 p0 p1 p2 p3)
      have BR := HBW.out.aft A2
      generalize ((W.alloc (.cells #[.string p0, .string p1, .string (givenS p2), .string (givenS p3), .slice none 0 0] 24)).drew) = W2 at A2 BY BR ⊢
      have HL := Lib.hid (Line_any (lex4 p0 p1 p2 p3) W2 (hw.aft (AW.trans A2)) hc (fun f h => by cases h) hl8 (by simp [lex4, text]))
      rw [hl] at HL
      obtain ⟨c0, c1, c2, c3, c4⟩ := BY.five
      dsimp only [lex4, Nat.zero_add] at c0 c1 c2 c3 c4 HL
      clear hHeld
      go_wp2_with fail
      refine HL.out.mono ?_
      rintro e w3 ⟨rfl, A3⟩
      have BY3 := BY.aft A3
      have BR3 := BR.aft A3
      obtain ⟨e0, e1, e2, e3, e4⟩ := BY3.five
      obtain ⟨r0, r1, r2, r3, r4⟩ := BR3.five
      have z0 := BR3.frozen 0; have z1 := BR3.frozen 1; have z2 := BR3.frozen 2; have z3 := BR3.frozen 3; have z4 := BR3.frozen 4
      dsimp only [lex4, zeroL, Nat.zero_add] at e0 e1 e2 e3 e4 r0 r1 r2 r3 r4
      have AA := (AW.trans A2).trans A3
      clear c0 c1 c2 c3 c4 q0 q1 q2 q3 HL BY BR BY3 BR3 A2 B0
      go_wp2
      try simp only [Exit.inBlock, Exit.then]
      refine bodyPost_ret (v := .tuple #[.agg #[.string p0, .string p1, .string (givenS p2), .string (givenS p3), .slice none 0 0], .int .i64 0]) (by rw [results_cell_tmp rfl]; simp [go_sem, r0, r1, r2, r3, r4]) rfl ?_
      exact ⟨rfl, ((((AA.setCell (p := ⟨w.heap.size, 0, none⟩) (Nat.le_refl _) _).setCell (p := ⟨w.heap.size, 1, none⟩) (Nat.le_refl _) _).setCell (p := ⟨w.heap.size, 2, none⟩) (Nat.le_refl _) _).setCell (p := ⟨w.heap.size, 3, none⟩) (Nat.le_refl _) _).setCell (p := ⟨w.heap.size, 4, none⟩) (Nat.le_refl _) _⟩
    · go_simp
      refine hK.out _ _ (⟨(B0.alloc _).cell q0, (B0.alloc _).cell q1, (B0.alloc _).cell q2, (B0.alloc _).cell q3⟩) (fun hHeld => ?_)
      clear hK K
      try simp only [Act.put, List.setIfInBounds_toArray, List.set_cons_zero, List.set_cons_succ]
      refine one_ready (i := 13) rfl (by kernel_rfl) (by rfl) (fun K hK => ?_)
      go_simp
      refine (given_any p3 _).mono ?_
      rintro e w9 ⟨rfl, rfl⟩
      try go_simp
      refine hK.out _ _ (⟨(B0.alloc _).cell q0, (B0.alloc _).cell q1, (B0.alloc _).cell q2, (B0.alloc _).cell q3⟩) (fun hHeld => ?_)
      clear hK K
      try simp only [Act.put, List.setIfInBounds_toArray, List.set_cons_zero, List.set_cons_succ]
      refine take_on (i := 14) (v := ?v1028) rfl (by kernel_rfl) (by kernel_rfl) (by kernel_rfl) (fun _ _ _ h => h) (by rfl) (by assumption) ?y1028 ?_
      case y1028 => (intro w hSw; (try dsimp only at hSw); go_simp; (try with_reducible rfl))
      try simp only [Act.put, List.setIfInBounds_toArray, List.set_cons_zero, List.set_cons_succ]
      refine one_ready (i := 16) rfl (by kernel_rfl) (by rfl) (fun K hK => ?_)
      go_simp
      refine hK.out _ _ (⟨(B0.alloc _).cell q0, (B0.alloc _).cell q1, (B0.alloc _).cell q2, (B0.alloc _).cell q3⟩) (fun hHeld => ?_)
      clear hK K
      try simp only [Act.put]
      refine wpAnyH_done (by kernel_rfl) ?_ _
      have A2 : Aft W ((W.alloc (.cells #[.string p0, .string p1, .string (givenS p2), .string (givenS p3), .slice none 0 0] 24)).drew) := ((Aft.refl W).alloc _).drew
      have BY : BoxL ((W.alloc (.cells #[.string p0, .string p1, .string (givenS p2), .string (givenS p3), .slice none 0 0] 24)).drew) W.heap.size (lex4 p0 p1 p2 p3) := BoxL.new W (lex4 p0 p1 p2 p3)
      have BR := HBW.out.aft A2
      generalize ((W.alloc (.cells #[.string p0, .string p1, .string (givenS p2), .string (givenS p3), .slice none 0 0] 24)).drew) = W2 at A2 BY BR ⊢
      have HL := Lib.hid (Line_any (lex4 p0 p1 p2 p3) W2 (hw.aft (AW.trans A2)) hc (fun f h => by cases h) hl8 (by simp [lex4, text]))
      rw [hl] at HL
      obtain ⟨c0, c1, c2, c3, c4⟩ := BY.five
      dsimp only [lex4, Nat.zero_add] at c0 c1 c2 c3 c4 HL
      clear hHeld
      go_wp2_with fail
      refine HL.out.mono ?_
      rintro e w3 ⟨rfl, A3⟩
      have BY3 := BY.aft A3
      have BR3 := BR.aft A3
      obtain ⟨e0, e1, e2, e3, e4⟩ := BY3.five
      obtain ⟨r0, r1, r2, r3, r4⟩ := BR3.five
      have z0 := BR3.frozen 0; have z1 := BR3.frozen 1; have z2 := BR3.frozen 2; have z3 := BR3.frozen 3; have z4 := BR3.frozen 4
      dsimp only [lex4, zeroL, Nat.zero_add] at e0 e1 e2 e3 e4 r0 r1 r2 r3 r4
      have AA := (AW.trans A2).trans A3
      clear c0 c1 c2 c3 c4 q0 q1 q2 q3 HL BY BR BY3 BR3 A2 B0
      go_wp2
      try simp only [Exit.inBlock, Exit.then]
      refine bodyPost_ret (v := .tuple #[.agg #[.string p0, .string p1, .string (givenS p2), .string (givenS p3), .slice none 0 0], .int .i64 0]) (by rw [results_cell_tmp rfl]; simp [go_sem, r0, r1, r2, r3, r4]) rfl ?_
      exact ⟨rfl, ((((AA.setCell (p := ⟨w.heap.size, 0, none⟩) (Nat.le_refl _) _).setCell (p := ⟨w.heap.size, 1, none⟩) (Nat.le_refl _) _).setCell (p := ⟨w.heap.size, 2, none⟩) (Nat.le_refl _) _).setCell (p := ⟨w.heap.size, 3, none⟩) (Nat.le_refl _) _).setCell (p := ⟨w.heap.size, 4, none⟩) (Nat.le_refl _) _⟩
  · go_simp
    refine hK.out _ _ (⟨(B0.alloc _).cell q0, (B0.alloc _).cell q1, (B0.alloc _).cell q2, (B0.alloc _).cell q3⟩) (fun hHeld => ?_)
    clear hK K
    try simp only [Act.put, List.setIfInBounds_toArray, List.set_cons_zero, List.set_cons_succ]
    refine one_ready (i := 9) rfl (by kernel_rfl) (by rfl) (fun K hK => ?_)
    go_simp
    refine (given_any p2 _).mono ?_
    rintro e w9 ⟨rfl, rfl⟩
    try go_simp
    refine hK.out _ _ (⟨(B0.alloc _).cell q0, (B0.alloc _).cell q1, (B0.alloc _).cell q2, (B0.alloc _).cell q3⟩) (fun hHeld => ?_)
    clear hK K
    try simp only [Act.put, List.setIfInBounds_toArray, List.set_cons_zero, List.set_cons_succ]
    refine one_ready (i := 13) rfl (by kernel_rfl) (by rfl) (fun K hK => ?_)
    go_simp
    refine (given_any p3 _).mono ?_
    rintro e w9 ⟨rfl, rfl⟩
    try go_simp
    refine hK.out _ _ (⟨(B0.alloc _).cell q0, (B0.alloc _).cell q1, (B0.alloc _).cell q2, (B0.alloc _).cell q3⟩) (fun hHeld => ?_)
    clear hK K
    try simp only [Act.put, List.setIfInBounds_toArray, List.set_cons_zero, List.set_cons_succ]
    refine take_on (i := 14) (v := ?v1029) rfl (by kernel_rfl) (by kernel_rfl) (by kernel_rfl) (fun _ _ _ h => h) (by rfl) (by assumption) ?y1029 ?_
    case y1029 => (intro w hSw; (try dsimp only at hSw); go_simp; (try with_reducible rfl))
    try simp only [Act.put, List.setIfInBounds_toArray, List.set_cons_zero, List.set_cons_succ]
    refine one_ready (i := 16) rfl (by kernel_rfl) (by rfl) (fun K hK => ?_)
    go_simp
    refine hK.out _ _ (⟨(B0.alloc _).cell q0, (B0.alloc _).cell q1, (B0.alloc _).cell q2, (B0.alloc _).cell q3⟩) (fun hHeld => ?_)
    clear hK K
    try simp only [Act.put]
    refine wpAnyH_done (by kernel_rfl) ?_ _
    have A2 : Aft W ((W.alloc (.cells #[.string p0, .string p1, .string (givenS p2), .string (givenS p3), .slice none 0 0] 24)).drew) := ((Aft.refl W).alloc _).drew
    have BY : BoxL ((W.alloc (.cells #[.string p0, .string p1, .string (givenS p2), .string (givenS p3), .slice none 0 0] 24)).drew) W.heap.size (lex4 p0 p1 p2 p3) := BoxL.new W (lex4 p0 p1 p2 p3)
    have BR := HBW.out.aft A2
    generalize ((W.alloc (.cells #[.string p0, .string p1, .string (givenS p2), .string (givenS p3), .slice none 0 0] 24)).drew) = W2 at A2 BY BR ⊢
    have HL := Lib.hid (Line_any (lex4 p0 p1 p2 p3) W2 (hw.aft (AW.trans A2)) hc (fun f h => by cases h) hl8 (by simp [lex4, text]))
    rw [hl] at HL
    obtain ⟨c0, c1, c2, c3, c4⟩ := BY.five
    dsimp only [lex4, Nat.zero_add] at c0 c1 c2 c3 c4 HL
    clear hHeld
    go_wp2_with fail
    refine HL.out.mono ?_
    rintro e w3 ⟨rfl, A3⟩
    have BY3 := BY.aft A3
    have BR3 := BR.aft A3
    obtain ⟨e0, e1, e2, e3, e4⟩ := BY3.five
    obtain ⟨r0, r1, r2, r3, r4⟩ := BR3.five
    have z0 := BR3.frozen 0; have z1 := BR3.frozen 1; have z2 := BR3.frozen 2; have z3 := BR3.frozen 3; have z4 := BR3.frozen 4
    dsimp only [lex4, zeroL, Nat.zero_add] at e0 e1 e2 e3 e4 r0 r1 r2 r3 r4
    have AA := (AW.trans A2).trans A3
    clear c0 c1 c2 c3 c4 q0 q1 q2 q3 HL BY BR BY3 BR3 A2 B0
    go_wp2
    try simp only [Exit.inBlock, Exit.then]
    refine bodyPost_ret (v := .tuple #[.agg #[.string p0, .string p1, .string (givenS p2), .string (givenS p3), .slice none 0 0], .int .i64 0]) (by rw [results_cell_tmp rfl]; simp [go_sem, r0, r1, r2, r3, r4]) rfl ?_
    exact ⟨rfl, ((((AA.setCell (p := ⟨w.heap.size, 0, none⟩) (Nat.le_refl _) _).setCell (p := ⟨w.heap.size, 1, none⟩) (Nat.le_refl _) _).setCell (p := ⟨w.heap.size, 2, none⟩) (Nat.le_refl _) _).setCell (p := ⟨w.heap.size, 3, none⟩) (Nat.le_refl _) _).setCell (p := ⟨w.heap.size, 4, none⟩) (Nat.le_refl _) _⟩
end Go.Proofs.YtpkhoklahcgcoaaDoor
