/-
  The closure of numbers appends what it is called with where the words of that number are the tokens. Conditions: the system is valid in its base and its powers; the boxes lie where they say.
-/
import Derived.Test.YtdehghmpfkhljaaDoorNumKeep
import Derived.Test.YtdehghmpfkhljaaDoorShelf
import Derived.Test.YtdehghmpfkhljaaDoorRegion
import Derived.Maps.AppendAt
namespace Go.Proofs.YtdehghmpfkhljaaDoor
open Go.RowKit
open NumPlain

theorem eqs_any (A B : Option Addr) (n c m d : Nat) (xs ys : List BA) (w : World) (hx : Rw sV w A n c xs) (hy : Rw sV w B m d ys) :
    Calls Tryd.prog 57 #[.slice A n c, .slice B m d] w (BoolPost w (decide (xs = ys))) := by
  have hxl := hx.len
  have hyl := hy.len
  have h1 := hx.le
  have h2 := hx.cmax
  have h3 := hy.le
  have h4 := hy.cmax
  by_cases h : n = m
  · subst h
    rcases Nat.eq_zero_or_pos n with rfl | hp
    · obtain rfl := List.length_eq_zero_iff.1 hxl
      obtain rfl := List.length_eq_zero_iff.1 hyl
      refine (Tryd.slices_Equal_string_empty A B c 0 d w (by omega)).mono ?_
      rintro e w' ⟨rfl, rfl⟩
      exact ⟨by simp, Aft.refl _⟩
    · obtain ⟨b1, o1, u1, rfl, _, _⟩ := hx.at_ hp
      obtain ⟨b2, o2, u2, rfl, _, _⟩ := hy.at_ hp
      refine (Tryd.slices_Equal_string b1 o1 n c b2 o2 n d xs ys w (by omega) (by omega) (by omega) (by omega) (fun j hj => ?_) (fun j hj => ?_)).mono ?_
      · obtain ⟨b, o, e, g⟩ := hx.cells j _ (List.getElem?_eq_getElem hj)
        cases e
        simpa [List.getD, List.getElem?_eq_getElem hj] using g
      · obtain ⟨b, o, e, g⟩ := hy.cells j _ (List.getElem?_eq_getElem hj)
        cases e
        simpa [List.getD, List.getElem?_eq_getElem hj] using g
      · rintro e w' ⟨rfl, q, rfl⟩
        exact ⟨by rw [List.take_of_length_le (by omega), List.take_of_length_le (by omega)], (Aft.refl _).drewN q⟩
  · refine (Tryd.slices_Equal_string_lens A B n c m d w h).mono ?_
    rintro e w' ⟨rfl, rfl⟩
    refine ⟨?_, Aft.refl _⟩
    rw [decide_eq_false]
    rintro rfl
    omega

theorem oneI (z : Int) : ∀ u ∈ [Value.int .i64 z], u.oneCell' = true := by intro u hu; simp at hu; subst hu; rfl
theorem St.aft {B ob : Nat} {Pr : Nat → Prop} {l : List Int} {W W' : World} (h : St B ob Pr l W) (k : Aft W W') : St B ob Pr l W' := by
  obtain ⟨⟨v, h1, h2, h3⟩, h4, h5⟩ := h
  exact ⟨⟨v, (k.block ob h1.lt).trans h1, row_aft h2 k, fun j hj => ⟨Nat.lt_of_lt_of_le (h3 j hj).1 k.size, (h3 j hj).2⟩⟩, h4, Nat.le_trans h5 k.size⟩
theorem fix_aft {Pr : Nat → Prop} {W W' : World} (hs : ∀ k, Pr k → k < W.heap.size) (k : Aft W W') : Fix Pr W W' := fun j hj => k.block j (hs j hj)

/-- The row behind an append and the store into the variable. -/
theorem St.app {B ob : Nat} {Pr : Nat → Prop} {l : List Int} {W w9 : World} {v v' : Value} {z : Int} {tmp : Obj} (hv : Boxed W ob 35 v) (hr : W.ownsRow B 3 1 v l.length (l.map vI))
    (hp : ∀ k, Pr k → k < W.heap.size ∧ k ≠ ob ∧ v.ownBlock ≠ some k) (hle : B ≤ ob) (hbig : B ≤ W.heap.size) (own9 : w9.ownsRow B 3 1 v' (l.length + 1) (l.map vI ++ [vI z])) (grow9 : (W.alloc tmp).grownBy w9 v.ownBlock)
    (hat : v'.ownBlock = v.ownBlock ∨ v'.ownBlock = some (W.alloc tmp).heap.size) :
    St B ob Pr (l ++ [z]) (w9.setCell ⟨ob, 0, none⟩ v') ∧ Fix Pr W (w9.setCell ⟨ob, 0, none⟩ v') ∧ Below B W (w9.setCell ⟨ob, 0, none⟩ v') := by
  obtain ⟨b1, b2, r2, k2, l2⟩ := hv.appended (by decide) hr hbig hle own9 grow9
  refine ⟨⟨⟨v', b2, ?_, fun k hk => ?_⟩, hle, Nat.le_trans hbig l2.size⟩, fun k hk => ?_, l2⟩
  · rw [List.length_append, List.map_append]; exact r2
  · obtain ⟨p1, p2, p3⟩ := hp k hk
    refine ⟨Nat.lt_of_lt_of_le p1 l2.size, p2, ?_⟩
    rcases hat with h | h
    · rw [h]; exact p3
    · rw [h, World.size_alloc]; intro e; cases e; omega
  · obtain ⟨p1, p2, p3⟩ := hp k hk
    rw [Below.heap_setCell _ _ _ _ (by simpa using p2)]
    exact (grow9.block k (by rw [World.size_alloc]; omega) (fun e => p3 e.symm)).trans (Below.heap_alloc W tmp k p1)

/-- What the closure of numbers has captured, beside the row. -/
structure Rdr (w : World) (R T : Nat) (x : Nm) (Bs Bw : Nat) (A : Option Addr) (n c : Nat) (toks : List BA) : Prop where
  fn : w.cell? ⟨R, 8, none⟩ = some (.func (.func 50) #[] #[.pointer (some ⟨Bs, 0, none⟩), .pointer (some ⟨Bw, 0, none⟩)])
  tk : w.cell? ⟨T, 0, none⟩ = some (.slice A n c)
  row : Rw sV w A n c toks
  sp : Spl w Bs Bw x
theorem Rdr.aft {w w' : World} {R T : Nat} {x : Nm} {Bs Bw : Nat} {A : Option Addr} {n c : Nat} {toks : List BA} (h : Rdr w R T x Bs Bw A n c toks) (k : Aft w w') : Rdr w' R T x Bs Bw A n c toks := ⟨k.cell h.fn, k.cell h.tk, h.row.aft k, h.sp.aft k⟩
def keepP (x : Nm) (toks : List BA) (z : Int) : List Int := if 0 ≤ z ∧ z ≤ 9999 ∧ wordsB x z.toNat = toks then [z] else []
theorem keepP_len (x : Nm) (toks : List BA) (z : Int) : (keepP x toks z).length ≤ 1 := by unfold keepP; split <;> simp

set_option maxRecDepth 100000 in
set_option maxHeartbeats 3200000 in
theorem keep_any (x : Nm) (hx : Ok x) (R T Bs Bw : Nat) (A : Option Addr) (n c : Nat) (toks : List BA) (B ob : Nat) (w0 : World) (hwB : w0.heap.size = B) (hr0 : Rdr w0 R T x Bs Bw A n c toks) :
    KV 56 #[.pointer (some ⟨R, 0, none⟩), .pointer (some ⟨T, 0, none⟩), .pointer (some ⟨ob, 0, none⟩)] B ob (fun _ => False) w0 (fun z => (Lit.int .i64 z).wf = true) 1000000000 (keepP x toks) := by
  intro Pr l z W hn hfx hb hst hz hl
  have hA : Aft w0 W := by subst hwB; exact hb
  have hr := hr0.aft hA
  have c8 := hr.fn
  have c0 := hr.tk
  have hcf := enterW
  have hrle := hr.row.le
  have hrcm := hr.row.cmax
  have HLT := Lib.hid hst.lt
  have HST := Lib.hid hst
  have HBIG := Lib.hid hst.big
  have HL := Lib.hid hl
  obtain ⟨i0, hi, hzs⟩ : ∃ i, Tryd.prog.info? 3 = some i ∧ (i.zero, i.size, i.bytes) = (some (.int .i64 0), 1, 8) := by
    have h := Tryd.infoI
    cases hi : Tryd.prog.info? 3 with
    | none => rw [hi] at h; cases h
    | some i => rw [hi] at h; exact ⟨i, rfl, by simpa using h⟩
  have hz0 : i0.zero = some (.int .i64 0) := congrArg Prod.fst hzs
  have hz1 : i0.size = 1 := congrArg (fun p => p.2.1) hzs
  have hz2 : i0.bytes = 8 := congrArg (fun p => p.2.2) hzs
  have HI := Lib.hid hi
  have HZ0 := Lib.hid hz0
  have HZ1 := Lib.hid hz1
  have HZ2 := Lib.hid hz2
  clear hzs hi hz0 hz1 hz2
  by_cases hlo : 0 ≤ z
  · by_cases hhi : z ≤ 9999
    · have HW := Lib.hid (fun (w1 : World) (a : Aft W w1) => show Calls Tryd.prog 50 #[.int .i64 z, .pointer (some ⟨Bs, 0, none⟩), .pointer (some ⟨Bw, 0, none⟩)] w1 (SlPost w1 (wordsB x z.toNat)) by
        have h := wcall_any x hx z.toNat (by omega) Bs Bw w1 (hr.sp.aft a)
        rw [Int.toNat_of_nonneg hlo] at h
        exact h)
      by_cases he : wordsB x z.toNat = toks
      · have HEQ := Lib.hid (fun (w1 : World) (X : Option Addr) (nx cx : Nat) (hX : Rw sV w1 X nx cx (wordsB x z.toNat)) (a : Aft W w1) => show Calls Tryd.prog 57 #[.slice X nx cx, .slice A n c] w1 (BoolPost w1 true) by
          have h := eqs_any X A nx cx n c (wordsB x z.toNat) toks w1 hX (hr.row.aft a)
          rw [decide_eq_true he] at h
          exact h)
        have HV := Lib.hid (show keepP x toks z = [z] by unfold keepP; exact if_pos ⟨hlo, hhi, he⟩)
        have hd1 : decide (0 ≤ z) = true := decide_eq_true hlo
        have hd2 : decide (z ≤ 9999) = true := decide_eq_true hhi
        clear he hr hr0 hfx hb hst hn hl hA hlo hhi
        go_enter Tryd.func56, Tryd.ntmps56
        go_wp2
        refine wp_region_held_drew (S := fun w' => Aft W w' ∧ w'.cell? ⟨R, 8, none⟩ = some (.func (.func 50) #[] #[.pointer (some ⟨Bs, 0, none⟩), .pointer (some ⟨Bw, 0, none⟩)]) ∧ w'.cell? ⟨T, 0, none⟩ = some (.slice A n c)) (by kernel_rfl) (⟨Below.drew (Aft.refl _), c8, c0⟩) (fun hHeld => ?_)
        refine take_on (i := 0) (v := ?v1) rfl (by kernel_rfl) (by kernel_rfl) (by kernel_rfl) (fun _ _ _ h => h) (by rfl) (by assumption) ?y1 ?_
        case y1 => (intro w hSw; (try dsimp only at hSw); go_simp; (try with_reducible rfl))
        try simp only [Act.put, List.setIfInBounds_toArray, List.set_cons_zero, List.set_cons_succ]
        refine take_on (i := 1) (v := ?v2) rfl (by kernel_rfl) (by kernel_rfl) (by kernel_rfl) (fun _ _ _ h => h) (by rfl) (by assumption) ?y2 ?_
        case y2 => (intro w hSw; (try dsimp only at hSw); go_simp; (try with_reducible rfl))
        try simp only [Act.put, List.setIfInBounds_toArray, List.set_cons_zero, List.set_cons_succ]
        refine take_on (i := 2) (v := ?v3) rfl (by kernel_rfl) (by kernel_rfl) (by kernel_rfl) (fun _ _ _ h => h) (by rfl) (by assumption) ?y3 ?_
        case y3 => (intro w hSw; (try dsimp only at hSw); go_simp; (try with_reducible rfl))
        try simp only [Act.put, List.setIfInBounds_toArray, List.set_cons_zero, List.set_cons_succ]
        refine take_on (i := 3) (v := ?v4) rfl (by kernel_rfl) (by kernel_rfl) (by kernel_rfl) (fun _ _ _ h => h) (by rfl) (by assumption) ?y4 ?_
        case y4 => (intro w hSw; (try dsimp only at hSw); go_simp; (try with_reducible rfl))
        try simp only [Act.put, List.setIfInBounds_toArray, List.set_cons_zero, List.set_cons_succ]
        refine take_on (i := 4) (v := ?v5) rfl (by kernel_rfl) (by kernel_rfl) (by kernel_rfl) (fun _ _ _ h => h) (by rfl) (by assumption) ?y5 ?_
        case y5 => (intro w hSw; (try dsimp only at hSw); go_simp; (try with_reducible rfl))
        try simp only [Act.put, List.setIfInBounds_toArray, List.set_cons_zero, List.set_cons_succ]
        refine take_on (i := 5) (v := ?v6) rfl (by kernel_rfl) (by kernel_rfl) (by kernel_rfl) (fun _ _ _ h => h) (by rfl) (by assumption) ?y6 ?_
        case y6 => (intro w hSw; (try dsimp only at hSw); go_simp; (try with_reducible rfl))
        try simp only [Act.put, List.setIfInBounds_toArray, List.set_cons_zero, List.set_cons_succ]
        refine take_on (i := 6) (v := ?v7) rfl (by kernel_rfl) (by kernel_rfl) (by kernel_rfl) (fun _ _ _ h => h) (by rfl) (by assumption) ?y7 ?_
        case y7 => (intro w hSw; (try dsimp only at hSw); go_simp; (try with_reducible rfl))
        try simp only [Act.put, List.setIfInBounds_toArray, List.set_cons_zero, List.set_cons_succ]
        refine take_on (i := 7) (v := ?v8) rfl (by kernel_rfl) (by kernel_rfl) (by kernel_rfl) (fun _ _ _ h => h) (by rfl) (by assumption) ?y8 ?_
        case y8 => (intro w hSw; (try dsimp only at hSw); go_simp; (try with_reducible rfl))
        try simp only [Act.put, List.setIfInBounds_toArray, List.set_cons_zero, List.set_cons_succ]
        refine take_on (i := 8) (v := ?v9) rfl (by kernel_rfl) (by kernel_rfl) (by kernel_rfl) (fun _ _ _ h => h) (by rfl) (by assumption) ?y9 ?_
        case y9 => (intro w hSw; (try dsimp only at hSw); go_simp; (try with_reducible rfl))
        try simp only [Act.put, List.setIfInBounds_toArray, List.set_cons_zero, List.set_cons_succ]
        refine take_on (i := 9) (v := ?v10) rfl (by kernel_rfl) (by kernel_rfl) (by kernel_rfl) (fun _ _ _ h => h) (by rfl) (by assumption) ?y10 ?_
        case y10 => (intro w hSw; (try dsimp only at hSw); go_simp; (try with_reducible rfl))
        try simp only [Act.put, List.setIfInBounds_toArray, List.set_cons_zero, List.set_cons_succ]
        refine take_on (i := 11) (v := ?v11) rfl (by kernel_rfl) (by kernel_rfl) (by kernel_rfl) (fun _ _ _ h => h) (by rfl) (by assumption) ?y11 ?_
        case y11 => (intro w hSw; (try dsimp only at hSw); go_simp; (try with_reducible rfl))
        try simp only [Act.put, List.setIfInBounds_toArray, List.set_cons_zero, List.set_cons_succ]
        refine one_ready (i := 10) rfl (by kernel_rfl) (by rfl) (fun K hK => ?_)
        go_simp
        go_at_call 50
        refine (HW.out _ (by first | exact hHeld.1 | exact Below.drew hHeld.1)).mono ?_
        rintro e' w' ⟨⟨X, nx, cx, rfl, hX⟩, N9⟩
        have hh : (fun w' => Aft W w' ∧ w'.cell? ⟨R, 8, none⟩ = some (.func (.func 50) #[] #[.pointer (some ⟨Bs, 0, none⟩), .pointer (some ⟨Bw, 0, none⟩)]) ∧ w'.cell? ⟨T, 0, none⟩ = some (.slice A n c)) w' := ⟨Aft.trans (by first | exact hHeld.1 | exact Below.drew hHeld.1) N9, N9.cell (by first | exact hHeld.2.1 | exact Aft.cell (Below.drew (Aft.refl _)) hHeld.2.1), N9.cell (by first | exact hHeld.2.2 | exact Aft.cell (Below.drew (Aft.refl _)) hHeld.2.2)⟩
        clear N9
        have HX := Lib.hid hX
        clear hX
        try go_simp
        refine hK.out _ _ (by first | exact hh | exact ⟨Below.drew hh.1, hh.2⟩) (fun hHeld => ?_)
        clear hK K
        try simp only [Act.put, List.setIfInBounds_toArray, List.set_cons_zero, List.set_cons_succ]
        refine one_ready (i := 12) rfl (by kernel_rfl) (by rfl) (fun K hK => ?_)
        go_simp
        go_at_call 57
        refine (HEQ.out _ _ _ _ (by first | exact HX.out | exact HX.out.aft (Below.drew (Aft.refl _))) (by first | exact hHeld.1 | exact Below.drew hHeld.1)).mono ?_
        rintro e' w' ⟨rfl, N9⟩
        have hh : (fun w' => Aft W w' ∧ w'.cell? ⟨R, 8, none⟩ = some (.func (.func 50) #[] #[.pointer (some ⟨Bs, 0, none⟩), .pointer (some ⟨Bw, 0, none⟩)]) ∧ w'.cell? ⟨T, 0, none⟩ = some (.slice A n c)) w' := ⟨Aft.trans (by first | exact hHeld.1 | exact Below.drew hHeld.1) N9, N9.cell (by first | exact hHeld.2.1 | exact Aft.cell (Below.drew (Aft.refl _)) hHeld.2.1), N9.cell (by first | exact hHeld.2.2 | exact Aft.cell (Below.drew (Aft.refl _)) hHeld.2.2)⟩
        clear N9
        try go_simp
        refine hK.out _ _ (by first | exact hh | exact ⟨Below.drew hh.1, hh.2⟩) (fun hHeld => ?_)
        clear hK K
        try simp only [Act.put, List.setIfInBounds_toArray, List.set_cons_zero, List.set_cons_succ]
        refine take_on (i := 13) (v := ?v14) rfl (by kernel_rfl) (by kernel_rfl) (by kernel_rfl) (fun _ _ _ h => h) (by rfl) (by assumption) ?y14 ?_
        case y14 => (intro w hSw; (try dsimp only at hSw); go_simp; (try with_reducible rfl))
        try simp only [Act.put, List.setIfInBounds_toArray, List.set_cons_zero, List.set_cons_succ]
        refine wpAnyH_done (by kernel_rfl) ?_ _
        obtain ⟨v, hv1, hv2, hv3⟩ := (HST.out.aft hHeld.1).row
        have HV1 := Lib.hid hv1
        have HV2 := Lib.hid hv2
        have HV3 := Lib.hid hv3
        have hb0 := hv1.cell
        have hH := Lib.hid hHeld.1
        have hl1 := HL.out
        have hg1 := Nat.le_trans HBIG.out hHeld.1.size
        clear hHeld hv1 hv2 hv3
        obtain ⟨A1, c1, rfl, _⟩ := Rw.of_row HV2.out rfl
        go_wp2_with (at_builtin; refine wpList_append_own_at _ rfl _ _ 35 rfl B 3 i0 _ 1 8 Tryd.underlying35 HI.out HZ0.out HZ1.out HZ2.out rfl (by decide) _ _ _ rfl (HV2.out.alloc _) ⟨_, 0, none⟩ 1 1 [.int .i64 z] rfl rfl (one_val _ _ _ _ rfl) (oneI z) (by unfold maxLen; omega) (by omega) (by simp; omega) ?_; intro v' w9 own9 grow9 _ hat; have HF := Lib.hid (St.app HV1.out HV2.out HV3.out HST.out.le hg1 own9 grow9 hat); have hbx := (HV1.out.appended (by decide) HV2.out hg1 HST.out.le own9 grow9).1; have hc1 := hbx.cell; have hf1 := hbx.frozen; obtain ⟨g', cap', rfl⟩ := row_succ own9; clear own9 grow9 hat hbx)
        go_end0
        exact ⟨rfl, by rw [HV.out]; exact HF.out.1, (fix_aft HLT.out hH.out).trans HF.out.2.1, (Below.mono hH.out HBIG.out).trans HF.out.2.2⟩
      · have HEQ := Lib.hid (fun (w1 : World) (X : Option Addr) (nx cx : Nat) (hX : Rw sV w1 X nx cx (wordsB x z.toNat)) (a : Aft W w1) => show Calls Tryd.prog 57 #[.slice X nx cx, .slice A n c] w1 (BoolPost w1 false) by
          have h := eqs_any X A nx cx n c (wordsB x z.toNat) toks w1 hX (hr.row.aft a)
          rw [decide_eq_false he] at h
          exact h)
        have HV := Lib.hid (show keepP x toks z = [] by unfold keepP; exact if_neg (fun h => he h.2.2))
        have hd1 : decide (0 ≤ z) = true := decide_eq_true hlo
        have hd2 : decide (z ≤ 9999) = true := decide_eq_true hhi
        clear he hr hr0 hfx hb hst hn hl hA hlo hhi
        go_enter Tryd.func56, Tryd.ntmps56
        go_wp2
        refine wp_region_held_drew (S := fun w' => Aft W w' ∧ w'.cell? ⟨R, 8, none⟩ = some (.func (.func 50) #[] #[.pointer (some ⟨Bs, 0, none⟩), .pointer (some ⟨Bw, 0, none⟩)]) ∧ w'.cell? ⟨T, 0, none⟩ = some (.slice A n c)) (by kernel_rfl) (⟨Below.drew (Aft.refl _), c8, c0⟩) (fun hHeld => ?_)
        refine take_on (i := 0) (v := ?v15) rfl (by kernel_rfl) (by kernel_rfl) (by kernel_rfl) (fun _ _ _ h => h) (by rfl) (by assumption) ?y15 ?_
        case y15 => (intro w hSw; (try dsimp only at hSw); go_simp; (try with_reducible rfl))
        try simp only [Act.put, List.setIfInBounds_toArray, List.set_cons_zero, List.set_cons_succ]
        refine take_on (i := 1) (v := ?v16) rfl (by kernel_rfl) (by kernel_rfl) (by kernel_rfl) (fun _ _ _ h => h) (by rfl) (by assumption) ?y16 ?_
        case y16 => (intro w hSw; (try dsimp only at hSw); go_simp; (try with_reducible rfl))
        try simp only [Act.put, List.setIfInBounds_toArray, List.set_cons_zero, List.set_cons_succ]
        refine take_on (i := 2) (v := ?v17) rfl (by kernel_rfl) (by kernel_rfl) (by kernel_rfl) (fun _ _ _ h => h) (by rfl) (by assumption) ?y17 ?_
        case y17 => (intro w hSw; (try dsimp only at hSw); go_simp; (try with_reducible rfl))
        try simp only [Act.put, List.setIfInBounds_toArray, List.set_cons_zero, List.set_cons_succ]
        refine take_on (i := 3) (v := ?v18) rfl (by kernel_rfl) (by kernel_rfl) (by kernel_rfl) (fun _ _ _ h => h) (by rfl) (by assumption) ?y18 ?_
        case y18 => (intro w hSw; (try dsimp only at hSw); go_simp; (try with_reducible rfl))
        try simp only [Act.put, List.setIfInBounds_toArray, List.set_cons_zero, List.set_cons_succ]
        refine take_on (i := 4) (v := ?v19) rfl (by kernel_rfl) (by kernel_rfl) (by kernel_rfl) (fun _ _ _ h => h) (by rfl) (by assumption) ?y19 ?_
        case y19 => (intro w hSw; (try dsimp only at hSw); go_simp; (try with_reducible rfl))
        try simp only [Act.put, List.setIfInBounds_toArray, List.set_cons_zero, List.set_cons_succ]
        refine take_on (i := 5) (v := ?v20) rfl (by kernel_rfl) (by kernel_rfl) (by kernel_rfl) (fun _ _ _ h => h) (by rfl) (by assumption) ?y20 ?_
        case y20 => (intro w hSw; (try dsimp only at hSw); go_simp; (try with_reducible rfl))
        try simp only [Act.put, List.setIfInBounds_toArray, List.set_cons_zero, List.set_cons_succ]
        refine take_on (i := 6) (v := ?v21) rfl (by kernel_rfl) (by kernel_rfl) (by kernel_rfl) (fun _ _ _ h => h) (by rfl) (by assumption) ?y21 ?_
        case y21 => (intro w hSw; (try dsimp only at hSw); go_simp; (try with_reducible rfl))
        try simp only [Act.put, List.setIfInBounds_toArray, List.set_cons_zero, List.set_cons_succ]
        refine take_on (i := 7) (v := ?v22) rfl (by kernel_rfl) (by kernel_rfl) (by kernel_rfl) (fun _ _ _ h => h) (by rfl) (by assumption) ?y22 ?_
        case y22 => (intro w hSw; (try dsimp only at hSw); go_simp; (try with_reducible rfl))
        try simp only [Act.put, List.setIfInBounds_toArray, List.set_cons_zero, List.set_cons_succ]
        refine take_on (i := 8) (v := ?v23) rfl (by kernel_rfl) (by kernel_rfl) (by kernel_rfl) (fun _ _ _ h => h) (by rfl) (by assumption) ?y23 ?_
        case y23 => (intro w hSw; (try dsimp only at hSw); go_simp; (try with_reducible rfl))
        try simp only [Act.put, List.setIfInBounds_toArray, List.set_cons_zero, List.set_cons_succ]
        refine take_on (i := 9) (v := ?v24) rfl (by kernel_rfl) (by kernel_rfl) (by kernel_rfl) (fun _ _ _ h => h) (by rfl) (by assumption) ?y24 ?_
        case y24 => (intro w hSw; (try dsimp only at hSw); go_simp; (try with_reducible rfl))
        try simp only [Act.put, List.setIfInBounds_toArray, List.set_cons_zero, List.set_cons_succ]
        refine take_on (i := 11) (v := ?v25) rfl (by kernel_rfl) (by kernel_rfl) (by kernel_rfl) (fun _ _ _ h => h) (by rfl) (by assumption) ?y25 ?_
        case y25 => (intro w hSw; (try dsimp only at hSw); go_simp; (try with_reducible rfl))
        try simp only [Act.put, List.setIfInBounds_toArray, List.set_cons_zero, List.set_cons_succ]
        refine one_ready (i := 10) rfl (by kernel_rfl) (by rfl) (fun K hK => ?_)
        go_simp
        go_at_call 50
        refine (HW.out _ (by first | exact hHeld.1 | exact Below.drew hHeld.1)).mono ?_
        rintro e' w' ⟨⟨X, nx, cx, rfl, hX⟩, N9⟩
        have hh : (fun w' => Aft W w' ∧ w'.cell? ⟨R, 8, none⟩ = some (.func (.func 50) #[] #[.pointer (some ⟨Bs, 0, none⟩), .pointer (some ⟨Bw, 0, none⟩)]) ∧ w'.cell? ⟨T, 0, none⟩ = some (.slice A n c)) w' := ⟨Aft.trans (by first | exact hHeld.1 | exact Below.drew hHeld.1) N9, N9.cell (by first | exact hHeld.2.1 | exact Aft.cell (Below.drew (Aft.refl _)) hHeld.2.1), N9.cell (by first | exact hHeld.2.2 | exact Aft.cell (Below.drew (Aft.refl _)) hHeld.2.2)⟩
        clear N9
        have HX := Lib.hid hX
        clear hX
        try go_simp
        refine hK.out _ _ (by first | exact hh | exact ⟨Below.drew hh.1, hh.2⟩) (fun hHeld => ?_)
        clear hK K
        try simp only [Act.put, List.setIfInBounds_toArray, List.set_cons_zero, List.set_cons_succ]
        refine one_ready (i := 12) rfl (by kernel_rfl) (by rfl) (fun K hK => ?_)
        go_simp
        go_at_call 57
        refine (HEQ.out _ _ _ _ (by first | exact HX.out | exact HX.out.aft (Below.drew (Aft.refl _))) (by first | exact hHeld.1 | exact Below.drew hHeld.1)).mono ?_
        rintro e' w' ⟨rfl, N9⟩
        have hh : (fun w' => Aft W w' ∧ w'.cell? ⟨R, 8, none⟩ = some (.func (.func 50) #[] #[.pointer (some ⟨Bs, 0, none⟩), .pointer (some ⟨Bw, 0, none⟩)]) ∧ w'.cell? ⟨T, 0, none⟩ = some (.slice A n c)) w' := ⟨Aft.trans (by first | exact hHeld.1 | exact Below.drew hHeld.1) N9, N9.cell (by first | exact hHeld.2.1 | exact Aft.cell (Below.drew (Aft.refl _)) hHeld.2.1), N9.cell (by first | exact hHeld.2.2 | exact Aft.cell (Below.drew (Aft.refl _)) hHeld.2.2)⟩
        clear N9
        try go_simp
        refine hK.out _ _ (by first | exact hh | exact ⟨Below.drew hh.1, hh.2⟩) (fun hHeld => ?_)
        clear hK K
        try simp only [Act.put, List.setIfInBounds_toArray, List.set_cons_zero, List.set_cons_succ]
        refine take_on (i := 13) (v := ?v28) rfl (by kernel_rfl) (by kernel_rfl) (by kernel_rfl) (fun _ _ _ h => h) (by rfl) (by assumption) ?y28 ?_
        case y28 => (intro w hSw; (try dsimp only at hSw); go_simp; (try with_reducible rfl))
        try simp only [Act.put, List.setIfInBounds_toArray, List.set_cons_zero, List.set_cons_succ]
        refine wpAnyH_done (by kernel_rfl) ?_ _
        have hH := Lib.hid hHeld.1
        go_wp2
        go_end0
        exact ⟨rfl, by rw [HV.out, List.append_nil]; exact HST.out.aft hH.out, fix_aft HLT.out hH.out, Below.mono hH.out HBIG.out⟩
    · have HV := Lib.hid (show keepP x toks z = [] by unfold keepP; exact if_neg (fun h => hhi h.2.1))
      have hd1 : decide (0 ≤ z) = true := decide_eq_true hlo
      have hd2 : decide (z ≤ 9999) = false := decide_eq_false hhi
      clear hr hr0 hfx hb hst hn hl hA hlo hhi
      go_enter Tryd.func56, Tryd.ntmps56
      go_wp2
      refine wp_region_held_drew (S := fun w' => Aft W w') (by kernel_rfl) (Below.drew (Aft.refl _)) (fun hHeld => ?_)
      refine take_on (i := 0) (v := ?v29) rfl (by kernel_rfl) (by kernel_rfl) (by kernel_rfl) (fun _ _ _ h => h) (by rfl) (by assumption) ?y29 ?_
      case y29 => (intro w hSw; (try dsimp only at hSw); go_simp; (try with_reducible rfl))
      try simp only [Act.put, List.setIfInBounds_toArray, List.set_cons_zero, List.set_cons_succ]
      refine take_on (i := 1) (v := ?v30) rfl (by kernel_rfl) (by kernel_rfl) (by kernel_rfl) (fun _ _ _ h => h) (by rfl) (by assumption) ?y30 ?_
      case y30 => (intro w hSw; (try dsimp only at hSw); go_simp; (try with_reducible rfl))
      try simp only [Act.put, List.setIfInBounds_toArray, List.set_cons_zero, List.set_cons_succ]
      refine take_on (i := 2) (v := ?v31) rfl (by kernel_rfl) (by kernel_rfl) (by kernel_rfl) (fun _ _ _ h => h) (by rfl) (by assumption) ?y31 ?_
      case y31 => (intro w hSw; (try dsimp only at hSw); go_simp; (try with_reducible rfl))
      try simp only [Act.put, List.setIfInBounds_toArray, List.set_cons_zero, List.set_cons_succ]
      refine take_on (i := 3) (v := ?v32) rfl (by kernel_rfl) (by kernel_rfl) (by kernel_rfl) (fun _ _ _ h => h) (by rfl) (by assumption) ?y32 ?_
      case y32 => (intro w hSw; (try dsimp only at hSw); go_simp; (try with_reducible rfl))
      try simp only [Act.put, List.setIfInBounds_toArray, List.set_cons_zero, List.set_cons_succ]
      refine take_on (i := 4) (v := ?v33) rfl (by kernel_rfl) (by kernel_rfl) (by kernel_rfl) (fun _ _ _ h => h) (by rfl) (by assumption) ?y33 ?_
      case y33 => (intro w hSw; (try dsimp only at hSw); go_simp; (try with_reducible rfl))
      try simp only [Act.put, List.setIfInBounds_toArray, List.set_cons_zero, List.set_cons_succ]
      refine take_on (i := 5) (v := ?v34) rfl (by kernel_rfl) (by kernel_rfl) (by kernel_rfl) (fun _ _ _ h => h) (by rfl) (by assumption) ?y34 ?_
      case y34 => (intro w hSw; (try dsimp only at hSw); go_simp; (try with_reducible rfl))
      try simp only [Act.put, List.setIfInBounds_toArray, List.set_cons_zero, List.set_cons_succ]
      refine take_on (i := 6) (v := ?v35) rfl (by kernel_rfl) (by kernel_rfl) (by kernel_rfl) (fun _ _ _ h => h) (by rfl) (by assumption) ?y35 ?_
      case y35 => (intro w hSw; (try dsimp only at hSw); go_simp; (try with_reducible rfl))
      try simp only [Act.put, List.setIfInBounds_toArray, List.set_cons_zero, List.set_cons_succ]
      refine take_off (i := 7) rfl (by kernel_rfl) (by kernel_rfl) (by kernel_rfl) (fun _ _ _ h => h) (by rfl) (by assumption) ?_
      try simp only [Act.put, List.setIfInBounds_toArray, List.set_cons_zero, List.set_cons_succ]
      refine take_off (i := 8) rfl (by kernel_rfl) (by kernel_rfl) (by kernel_rfl) (fun _ _ _ h => h) (by rfl) (by assumption) ?_
      try simp only [Act.put, List.setIfInBounds_toArray, List.set_cons_zero, List.set_cons_succ]
      refine take_off (i := 9) rfl (by kernel_rfl) (by kernel_rfl) (by kernel_rfl) (fun _ _ _ h => h) (by rfl) (by assumption) ?_
      try simp only [Act.put, List.setIfInBounds_toArray, List.set_cons_zero, List.set_cons_succ]
      refine take_off (i := 10) rfl (by kernel_rfl) (by kernel_rfl) (by kernel_rfl) (fun _ _ _ h => h) (by rfl) (by assumption) ?_
      try simp only [Act.put, List.setIfInBounds_toArray, List.set_cons_zero, List.set_cons_succ]
      refine take_off (i := 11) rfl (by kernel_rfl) (by kernel_rfl) (by kernel_rfl) (fun _ _ _ h => h) (by rfl) (by assumption) ?_
      try simp only [Act.put, List.setIfInBounds_toArray, List.set_cons_zero, List.set_cons_succ]
      refine take_off (i := 12) rfl (by kernel_rfl) (by kernel_rfl) (by kernel_rfl) (fun _ _ _ h => h) (by rfl) (by assumption) ?_
      try simp only [Act.put, List.setIfInBounds_toArray, List.set_cons_zero, List.set_cons_succ]
      refine take_on (i := 13) (v := ?v42) rfl (by kernel_rfl) (by kernel_rfl) (by kernel_rfl) (fun _ _ _ h => h) (by rfl) (by assumption) ?y42 ?_
      case y42 => (intro w hSw; (try dsimp only at hSw); go_simp; (try with_reducible rfl))
      try simp only [Act.put, List.setIfInBounds_toArray, List.set_cons_zero, List.set_cons_succ]
      refine wpAnyH_done (by kernel_rfl) ?_ _
      have hH := Lib.hid hHeld
      go_wp2
      go_end0
      exact ⟨rfl, by rw [HV.out, List.append_nil]; exact HST.out.aft hH.out, fix_aft HLT.out hH.out, Below.mono hH.out HBIG.out⟩
  · have HV := Lib.hid (show keepP x toks z = [] by unfold keepP; exact if_neg (fun h => hlo h.1))
    have hd1 : decide (0 ≤ z) = false := decide_eq_false hlo
    clear hr hr0 hfx hb hst hn hl hA hlo
    go_enter Tryd.func56, Tryd.ntmps56
    go_wp2
    refine wp_region_held_drew (S := fun w' => Aft W w') (by kernel_rfl) (Below.drew (Aft.refl _)) (fun hHeld => ?_)
    refine take_on (i := 0) (v := ?v43) rfl (by kernel_rfl) (by kernel_rfl) (by kernel_rfl) (fun _ _ _ h => h) (by rfl) (by assumption) ?y43 ?_
    case y43 => (intro w hSw; (try dsimp only at hSw); go_simp; (try with_reducible rfl))
    try simp only [Act.put, List.setIfInBounds_toArray, List.set_cons_zero, List.set_cons_succ]
    refine take_on (i := 1) (v := ?v44) rfl (by kernel_rfl) (by kernel_rfl) (by kernel_rfl) (fun _ _ _ h => h) (by rfl) (by assumption) ?y44 ?_
    case y44 => (intro w hSw; (try dsimp only at hSw); go_simp; (try with_reducible rfl))
    try simp only [Act.put, List.setIfInBounds_toArray, List.set_cons_zero, List.set_cons_succ]
    refine take_on (i := 2) (v := ?v45) rfl (by kernel_rfl) (by kernel_rfl) (by kernel_rfl) (fun _ _ _ h => h) (by rfl) (by assumption) ?y45 ?_
    case y45 => (intro w hSw; (try dsimp only at hSw); go_simp; (try with_reducible rfl))
    try simp only [Act.put, List.setIfInBounds_toArray, List.set_cons_zero, List.set_cons_succ]
    refine take_off (i := 3) rfl (by kernel_rfl) (by kernel_rfl) (by kernel_rfl) (fun _ _ _ h => h) (by rfl) (by assumption) ?_
    try simp only [Act.put, List.setIfInBounds_toArray, List.set_cons_zero, List.set_cons_succ]
    refine take_off (i := 4) rfl (by kernel_rfl) (by kernel_rfl) (by kernel_rfl) (fun _ _ _ h => h) (by rfl) (by assumption) ?_
    try simp only [Act.put, List.setIfInBounds_toArray, List.set_cons_zero, List.set_cons_succ]
    refine take_on (i := 5) (v := ?v48) rfl (by kernel_rfl) (by kernel_rfl) (by kernel_rfl) (fun _ _ _ h => h) (by rfl) (by assumption) ?y48 ?_
    case y48 => (intro w hSw; (try dsimp only at hSw); go_simp; (try with_reducible rfl))
    try simp only [Act.put, List.setIfInBounds_toArray, List.set_cons_zero, List.set_cons_succ]
    refine take_on (i := 6) (v := ?v49) rfl (by kernel_rfl) (by kernel_rfl) (by kernel_rfl) (fun _ _ _ h => h) (by rfl) (by assumption) ?y49 ?_
    case y49 => (intro w hSw; (try dsimp only at hSw); go_simp; (try with_reducible rfl))
    try simp only [Act.put, List.setIfInBounds_toArray, List.set_cons_zero, List.set_cons_succ]
    refine take_off (i := 7) rfl (by kernel_rfl) (by kernel_rfl) (by kernel_rfl) (fun _ _ _ h => h) (by rfl) (by assumption) ?_
    try simp only [Act.put, List.setIfInBounds_toArray, List.set_cons_zero, List.set_cons_succ]
    refine take_off (i := 8) rfl (by kernel_rfl) (by kernel_rfl) (by kernel_rfl) (fun _ _ _ h => h) (by rfl) (by assumption) ?_
    try simp only [Act.put, List.setIfInBounds_toArray, List.set_cons_zero, List.set_cons_succ]
    refine take_off (i := 9) rfl (by kernel_rfl) (by kernel_rfl) (by kernel_rfl) (fun _ _ _ h => h) (by rfl) (by assumption) ?_
    try simp only [Act.put, List.setIfInBounds_toArray, List.set_cons_zero, List.set_cons_succ]
    refine take_off (i := 10) rfl (by kernel_rfl) (by kernel_rfl) (by kernel_rfl) (fun _ _ _ h => h) (by rfl) (by assumption) ?_
    try simp only [Act.put, List.setIfInBounds_toArray, List.set_cons_zero, List.set_cons_succ]
    refine take_off (i := 11) rfl (by kernel_rfl) (by kernel_rfl) (by kernel_rfl) (fun _ _ _ h => h) (by rfl) (by assumption) ?_
    try simp only [Act.put, List.setIfInBounds_toArray, List.set_cons_zero, List.set_cons_succ]
    refine take_off (i := 12) rfl (by kernel_rfl) (by kernel_rfl) (by kernel_rfl) (fun _ _ _ h => h) (by rfl) (by assumption) ?_
    try simp only [Act.put, List.setIfInBounds_toArray, List.set_cons_zero, List.set_cons_succ]
    refine take_on (i := 13) (v := ?v56) rfl (by kernel_rfl) (by kernel_rfl) (by kernel_rfl) (fun _ _ _ h => h) (by rfl) (by assumption) ?y56 ?_
    case y56 => (intro w hSw; (try dsimp only at hSw); go_simp; (try with_reducible rfl))
    try simp only [Act.put, List.setIfInBounds_toArray, List.set_cons_zero, List.set_cons_succ]
    refine wpAnyH_done (by kernel_rfl) ?_ _
    have hH := Lib.hid hHeld
    go_wp2
    go_end0
    exact ⟨rfl, by rw [HV.out, List.append_nil]; exact HST.out.aft hH.out, fix_aft HLT.out hH.out, Below.mono hH.out HBIG.out⟩
end Go.Proofs.YtdehghmpfkhljaaDoor
