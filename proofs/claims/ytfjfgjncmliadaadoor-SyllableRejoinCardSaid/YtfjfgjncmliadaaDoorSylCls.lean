/-
  classesOf maps each rune of a list of letters to the classes of its first letter (a range over slices.Backward that writes a map); isVowel. Condition: the slice holds the letters; the rune is an int32.
-/
import Derived.Test.YtfjfgjncmliadaaDoorSylPlain
import Derived.RangeFuncNested
import Derived.RangeFuncBound
import Derived.RangeFuncCalls
import Derived.RangeFuncLeaves
import Derived.RangeFuncWrites
import Derived.Shelf.Abstract
import Derived.OwnWalkIn
import Derived.TacticsInMore
import Derived.LoopNIn
import Derived.LoopIn
import Derived.Maps.OwnIn
namespace Go.Proofs.YtfjfgjncmliadaaDoor
open Go.RowKit Go.Shelf Go.Maps
open AlphPlain

attribute [local go_sem] Oper.semAt_some

theorem zeroU (w : World) : (zeroValue 49).run Tryd.prog w = .ok (.int .u32 0) w := by kernel_rfl
theorem run_makeMapC (n : Int) (w : World) : (Instr.makeMap 55 (some (.int .i64 n))).run Tryd.prog w = .ok (.map (some w.heap.size)) (w.alloc (.map #[] 0)) := by
  kernel_rfl

theorem has_cons (l : Lt) (a : List Lt) (r : Int) : AlphPlain.has (l :: a) r = (decide (l.1 = r) || AlphPlain.has a r) := by
  unfold AlphPlain.has
  rw [idx]
  by_cases h : l.1 = r
  · simp [h]
  · rw [if_neg h]
    cases idx a r <;> simp [h]
theorem clsOf_cons (l : Lt) (a : List Lt) (r : Int) : clsOf (l :: a) r = if l.1 = r then l.2 else clsOf a r := by
  unfold clsOf pos AlphPlain.has
  rw [idx]
  by_cases h : l.1 = r
  · simp [h]
  · rw [if_neg h, if_neg h]
    cases idx a r <;> simp

/-- Block Bm maps the runes of ls to the classes of their first letters. -/
structure ClsIn (w : World) (Bm k : Nat) (D : DataW Unit) (ls : List Lt) : Prop where
  own : w.ownsMap Tryd.prog 21 (plainElem Tryd.prog 49) Bm k D
  has : ∀ r : Int, Maps.has D (.int .i32 r) = AlphPlain.has ls r
  cls : ∀ r : Int, D.atKey (.int .i32 r) (.lit (.int .u32 0)) = .lit (.int .u32 (clsOf ls r))

theorem ClsIn.aft {w w' : World} {Bm k : Nat} {D : DataW Unit} {ls : List Lt} (h : ClsIn w Bm k D ls) (a : Aft w w') : ClsIn w' Bm k D ls := by
  refine ⟨?_, h.has, h.cls⟩
  have hlt := h.own.lt
  obtain ⟨es, clock, hb, r⟩ := h.own
  exact ⟨es, clock, (Below.block a Bm hlt).trans hb, r⟩
theorem ClsIn.put {w w' : World} {Bm k : Nat} {D : DataW Unit} {ls : List Lt} (h : ClsIn w Bm k D ls) (l : Lt)
    (own' : w'.ownsMap Tryd.prog 21 (plainElem Tryd.prog 49) Bm (k + 1) (D.put (.int .i32 l.1) (.lit (.int .u32 l.2)))) : ClsIn w' Bm (k + 1) (D.put (.int .i32 l.1) (.lit (.int .u32 l.2))) (l :: ls) := by
  refine ⟨own', fun r => ?_, fun r => ?_⟩
  · by_cases e : r = l.1
    · subst e
      rw [has_put_same h.own.isMap (by simp [WideAt.IsKeyLit]), has_cons]
      simp
    · rw [has_put_other (fun k => e (by simpa using k)), h.has, has_cons]
      simp [Ne.symm e]
  · by_cases e : r = l.1
    · subst e
      rw [atKey_put_same h.own.isMap (by simp [WideAt.IsKeyLit]), clsOf_cons]
      simp
    · rw [atKey_put_other (fun k => e (by simpa using k)), h.cls, clsOf_cons]
      simp [Ne.symm e]
theorem ClsIn.two {w : World} {Bm k : Nat} {D : DataW Unit} {ls : List Lt} (h : ClsIn w Bm k D ls) {r : Int} (hr : (Lit.int .i32 r).wf = true) :
    (Instr.lookup 55 (.map (some Bm)) (.int .i32 r) true).run Tryd.prog w = .ok (.tuple #[.int .u32 (clsOf ls r), .bool (AlphPlain.has ls r)]) w := by
  obtain ⟨v, ps, hrun, hv⟩ := h.own.look_ok lawR Tryd.underlying55 (zeroU w) (plainElem_int Tryd.underlying49 (by decide)) (keyOf_int_mk Tryd.underlying21 hr)
  rw [h.cls] at hv
  obtain ⟨c, rfl, hc, _⟩ := plainElem_int_inv Tryd.underlying49 hv
  simp at hc
  rw [hrun, h.has, hc.1]
theorem ClsIn.one {w : World} {Bm k : Nat} {D : DataW Unit} {ls : List Lt} (h : ClsIn w Bm k D ls) {r : Int} (hr : (Lit.int .i32 r).wf = true) :
    (Instr.lookup 55 (.map (some Bm)) (.int .i32 r) false).run Tryd.prog w = .ok (.int .u32 (clsOf ls r)) w := by
  obtain ⟨v, ps, hrun, hv⟩ := h.own.lookup lawR Tryd.underlying55 (zeroU w) (plainElem_int Tryd.underlying49 (by decide)) (keyOf_int_mk Tryd.underlying21 hr)
  rw [h.cls] at hv
  obtain ⟨c, rfl, hc, _⟩ := plainElem_int_inv Tryd.underlying49 hv
  simp at hc
  rw [hrun, hc.1]

theorem isVowel_any (Bm k : Nat) (D : DataW Unit) (ls : List Lt) (r : Int) (w : World) (h : ClsIn w Bm k D ls) (hr : (Lit.int .i32 r).wf = true) :
    Calls Tryd.prog 38 #[.map (some Bm), .int .i32 r] w (fun e w' => e = .returned (.bool (vowB ls r)) ∧ w = w') := by
  have hl := h.one hr
  have HV := Lib.hid (show vowB ls r = !decide (bits .and .u32 (clsOf ls r) 1 = 0) from rfl)
  generalize clsOf ls r = c at *
  by_cases hz : bits .and .u32 c 1 = 0
  · go_enter Tryd.func38, Tryd.ntmps38
    go_wp2
    go_ret
    exact ⟨by rw [HV.out]; simp [hz], rfl⟩
  · go_enter Tryd.func38, Tryd.ntmps38
    go_wp2
    go_ret
    exact ⟨by rw [HV.out]; simp [hz], rfl⟩

/-- A letter that can be one. -/
abbrev Lw := { l : Lt // (Lit.int .i32 l.1).wf = true ∧ (Lit.int .u32 l.2).wf = true }
theorem lift_lw : ∀ (ls : List Lt), (∀ l ∈ ls, (Lit.int .i32 l.1).wf = true ∧ (Lit.int .u32 l.2).wf = true) → ∃ lw : List Lw, lw.map (·.1) = ls
  | [], _ => ⟨[], rfl⟩
  | l :: ls, h => by
    obtain ⟨lw, e⟩ := lift_lw ls (fun x hx => h x (by simp [hx]))
    exact ⟨⟨l, h l (by simp)⟩ :: lw, by rw [List.map_cons, e]⟩
/-- What a round must keep: what lay before, and the box of the slice. -/
def Keep (n₀ Bs : Nat) (W W' : World) : Prop := Below n₀ W W' ∧ ∀ v, W.cell? ⟨Bs, 0, none⟩ = some v → W'.cell? ⟨Bs, 0, none⟩ = some v
theorem Keep.refl (n₀ Bs : Nat) (W : World) : Keep n₀ Bs W W := ⟨Below.refl _ _, fun _ h => h⟩
theorem Keep.trans {n₀ Bs : Nat} {A B C : World} (h : Keep n₀ Bs A B) (k : Keep n₀ Bs B C) : Keep n₀ Bs A C := ⟨h.1.trans k.1, fun v hv => k.2 v (h.2 v hv)⟩
theorem keep_b {n₀ Bs : Nat} {w : World} (hn : n₀ ≤ w.heap.size) (W : World) (l : Nat) (o o' : Obj) (hl : w.heap.size ≤ l) (h : W.heap[l]? = some o) (hc : o.isCells = false) (hw : o.isWalk = false) : Keep n₀ Bs W (W.putObj l o') :=
  ⟨belowK_b hn W l o o' hl h hc hw, fun v hv => cell_kept hv (grownBy_putObj' W l o') (fun r e => by cases e; exact ⟨o, h, hc⟩)⟩
def encL (x : Nat × Lw) : Array Value := #[.int .i64 (x.1 : Int), .agg #[.int .i32 x.2.1.1, .int .u32 x.2.1.2]]

set_option maxRecDepth 100000 in
set_option maxHeartbeats 2000000 in
theorem back_in (n : Nat) (hn : 1 ≤ n) (l Bs n₀ : Nat) (A : Option Addr) (N c : Nat) (lw : List Lw) (J Jx : List (Nat × Lw) → World → Prop) (W : World)
    (hY : ∀ pre x W1, J pre W1 → pre.length < lw.length → YieldAt Fence.wide (n - 1) Tryd.prog l (encL x) W1 fun e W' =>
      (e = .returned (.bool true) ∧ J (pre ++ [x]) W' ∧ Keep n₀ Bs W1 W') ∨ (e = .returned (.bool false) ∧ Jx (pre ++ [x]) W'))
    (hBs : W.cell? ⟨Bs, 0, none⟩ = some (.slice A N c)) (ha : Ll W A N c (lw.map (·.1))) (hA : 0 < N → ∀ a, A = some a → a.block < n₀) (h0 : J [] W) :
    CallsIn Fence.wide n Tryd.prog 69 #[.func (.yield l) #[] #[], .pointer (some ⟨Bs, 0, none⟩)] W fun e W' => (∃ v, e = .returned v) ∧
      ((∃ ys, ys.map (·.2) = lw.reverse ∧ J ys W') ∨ (∃ pre, True ∧ Jx pre W')) := by
  have hnm := ha.max
  have hnc := ha.le
  have hlw : lw.length = N := by have := ha.len; simpa using this
  have HL := Lib.hid hlw
  have HY := Lib.hid hY
  have HC := Lib.hid ha
  clear hY ha hlw
  refine callsIn_of_wp Tryd.func69 rfl trivial ?_ rfl
  simp only [Tryd.ntmps69, List.size_toArray, List.length_cons, List.length_nil, Nat.reduceAdd, Nat.reduceSub, Array.replicate_succ, Array.replicate_zero, List.push_toArray, List.append_toArray, List.nil_append, List.cons_append]
  gi_wp2
  gi_loopw [3] (fun i wr => ∃ (m : Nat) (z : Int) (pre : List (Nat × Lw)), m ≤ N ∧ z = (m : Int) - 1 ∧ i = .int .i64 z ∧ pre.map (·.2) = (lw.drop m).reverse ∧ J pre wr ∧ Keep n₀ Bs W wr) (fun i _ => (intOf i + 1).toNat)
  case atStart => exact ⟨N, _, [], Nat.le_refl _, rfl, rfl, by rw [List.drop_of_length_le (by rw [HL.out]; exact Nat.le_refl _)]; rfl, h0, Keep.refl _ _ _⟩
  case round =>
    obtain ⟨m, z, pre, hm, hz, rfl, hp, hJs, hk⟩ := hrel
    have HP := Lib.hid hp
    clear hp
    cases m with
    | zero =>
      obtain rfl : z = -1 := by omega
      clear hz
      gi_wp2
      go_end0
      exact ⟨⟨_, rfl⟩, .inl ⟨pre, HP.out, hJs⟩⟩
    | succ k =>
      obtain rfl : z = (k : Int) := by omega
      clear hz
      have hlt : k < N := by omega
      obtain ⟨b, off, l1, rfl, hf, g1, g2⟩ := HC.out.at_ hlt
      have hb : b < n₀ := hA (by omega) _ rfl
      have c1 := (hk.1.cell (p := ⟨b, off + k * 2, none⟩) hb).trans g1
      have c2 := (hk.1.cell (p := ⟨b, off + k * 2 + 1, none⟩) hb).trans g2
      have c3 := hk.2 _ hBs
      have hl0 : lw[k]? = some (lw[k]'(by rw [HL.out]; exact hlt)) := List.getElem?_eq_getElem _
      generalize lw[k]'(by rw [HL.out]; exact hlt) = x at hl0
      obtain rfl : x.1 = l1 := by
        rw [List.getElem?_map, hl0] at hf
        exact Option.some.inj hf
      have HX := Lib.hid hl0
      have hplen : pre.length < lw.length := by
        have := congrArg List.length HP.out
        simp only [List.length_map, List.length_reverse, List.length_drop] at this
        rw [HL.out] at this ⊢
        omega
      obtain ⟨fn, tmps, assign, body, hy, hR⟩ := HY.out pre (k, x) wr hJs hplen
      dsimp only [encL] at hy
      clear hf g1 g2 hl0 hplen
      gi_wp2
      refine hR.mono ?_
      rintro e W3 (⟨rfl, hJ3, hk3⟩ | ⟨rfl, hJx3⟩)
      · gi_wp2
        go_roundw
        case rel => exact ⟨k, _, pre ++ [(k, x)], by omega, rfl, rfl, by rw [List.map_append, HP.out, drop_of_get HX.out, List.reverse_cons]; rfl, hJ3, hk.trans hk3⟩
        case measure => simp [intOf]
      · gi_wp2
        refine bodyPost_ret (results_none rfl _ _ _) rfl ?_
        exact ⟨⟨_, rfl⟩, .inr ⟨_, trivial, hJx3⟩⟩

theorem backward_any (A : Option Addr) (n c : Nat) (w : World) :
    Calls Tryd.prog 52 #[.slice A n c] w (fun e w' => e = .returned (.func (.func 69) #[] #[.pointer (some ⟨w.heap.size, 0, none⟩)]) ∧ w' = w.alloc (.cells #[.slice A n c] 28)) := by
  go_enter Tryd.func52, Tryd.ntmps52
  go_wp2
  go_ret
  exact ⟨rfl, rfl⟩

theorem back_stops (n : Nat) (hn : 1 ≤ n) (Bs n₀ : Nat) (A : Option Addr) (N c : Nat) (lw : List Lw) (w : World) (hBs : w.cell? ⟨Bs, 0, none⟩ = some (.slice A N c)) (ha : Ll w A N c (lw.map (·.1))) (hA : 0 < N → ∀ a, A = some a → a.block < n₀) :
    SeqStopsK Fence.wide n Tryd.prog 69 #[.pointer (some ⟨Bs, 0, none⟩)] encL (Keep n₀ Bs) (fun ys => ys.map (·.2) = lw.reverse) (fun _ => True) lw.length w := fun l J Jx W hW _ _ hY h0 =>
  back_in n hn l Bs n₀ A N c lw J Jx W hY (Aft.cell hW hBs) (ha.aft hW) hA h0

def ClsPost (w : World) (ls : List Lt) (e : Ending) (w' : World) : Prop := ∃ Bm k D, e = .returned (.map (some Bm)) ∧ ClsIn w' Bm k D ls ∧ Aft w w'

/-- The letters that have come. -/
def gone (pre : List (Nat × Lw)) : List Lt := (pre.map (fun x => x.2.1)).reverse
theorem gone_snoc (pre : List (Nat × Lw)) (x : Nat × Lw) : gone (pre ++ [x]) = x.2.1 :: gone pre := by simp [gone]
theorem gone_all {ys : List (Nat × Lw)} {lw : List Lw} (h : ys.map (·.2) = lw.reverse) : gone ys = lw.map (·.1) := by
  have : ys.map (fun x => x.2.1) = (ys.map (·.2)).map (·.1) := by simp
  unfold gone
  rw [this, h]
  simp

set_option maxRecDepth 100000 in
set_option maxHeartbeats 2000000 in
theorem classesOf_any (A : Option Addr) (n c : Nat) (ls : List Lt) (w : World) (ha : Ll w A n c ls) :
    Calls Tryd.prog 37 #[.slice A n c] w (ClsPost w ls) := by
  obtain ⟨lw, rfl⟩ : ∃ lw : List Lw, lw.map (·.1) = ls := lift_lw ls ha.wf
  have hnm := ha.max
  have hnc := ha.le
  have hlw : lw.length = n := by have := ha.len; simpa using this
  have HL := Lib.hid hlw
  clear hlw
  have hmm := run_makeMapC
  have hA : 0 < n → ∀ a, A = some a → a.block < w.heap.size := by
    intro h0 a e
    obtain ⟨b, off, l, rfl, _, g1, _⟩ := ha.at_ h0
    cases e
    exact World.block_lt_of_cell? w _ g1
  refine (callsIn_wide (n := 3)).1 ?_
  refine callsIn_of_wp_marks Tryd.func37 rfl trivial ?_ rfl
  simp only [Tryd.ntmps37, List.size_toArray, List.length_cons, List.length_nil, Nat.reduceAdd, Nat.reduceSub, Array.replicate_succ, Array.replicate_zero, List.push_toArray, List.append_toArray, List.nil_append, List.cons_append]
  gi_wp2_with (refine ⟨trivial, ?_⟩; gi_at_call 52; refine (callsIn_wide.2 (backward_any A n c _)).mono ?_; rintro e' w1 ⟨rfl, rfl⟩)
  have hm0 := World.ownsMap_made w Tryd.prog 21 (plainElem (H := Unit) Tryd.prog 49)
  have cM := cell_one_new (w.alloc (.map #[] 0)) (.map (some w.heap.size)) 55 0 _ rfl
  have cS := cell_one_new ((w.alloc (.map #[] 0)).alloc (.cells #[.map (some w.heap.size)] 55)) (.slice A n c) 28 0 _ rfl
  simp only [World.size_alloc, Addr.add] at cM cS
  have hB0 : Aft w (((w.alloc (.map #[] 0)).alloc (.cells #[.map (some w.heap.size)] 55)).alloc (.cells #[.slice A n c] 28)) := (((Aft.refl w).alloc _).alloc _).alloc _
  have hsz : (((w.alloc (.map #[] 0)).alloc (.cells #[.map (some w.heap.size)] 55)).alloc (.cells #[.slice A n c] 28)).heap.size = w.heap.size + 3 := by simp
  have cM1 : (((w.alloc (.map #[] 0)).alloc (.cells #[.map (some w.heap.size)] 55)).alloc (.cells #[.slice A n c] 28)).cell? ⟨w.heap.size + 1, 0, none⟩ = some (.map (some w.heap.size)) := Aft.cell ((Aft.refl _).alloc _) cM
  have hm1 : ClsIn (((w.alloc (.map #[] 0)).alloc (.cells #[.map (some w.heap.size)] 55)).alloc (.cells #[.slice A n c] 28)) w.heap.size 0 (.map []) [] := ⟨(hm0.alloc _).alloc _, fun r => rfl, fun r => rfl⟩
  obtain ⟨W0, hW0⟩ : ∃ W0, ((w.alloc (.map #[] 0)).alloc (.cells #[.map (some w.heap.size)] 55)).alloc (.cells #[.slice A n c] 28) = W0 := ⟨_, rfl⟩
  rw [hW0] at cS hB0 hsz cM1 hm1 ⊢
  clear hW0 cM hm0
  refine wpIn_rangeFunc_ownH rfl (by omega) (gf := 69) (lb := #[.pointer (some ⟨w.heap.size + 1 + 1, 0, none⟩)]) rfl trivial (enters_of Tryd.func69 (by kernel_rfl) rfl)
    (back_stops 2 (by omega) (w.heap.size + 1 + 1) w.heap.size A n c lw W0 cS (ha.aft hB0) hA) Keep.trans (keep_b (by omega)) (Below.refl _ _) (fun _ => rfl)
    (fun pre W => (W.cell? ⟨w.heap.size + 1, 0, none⟩ = some (.map (some w.heap.size)) ∧ ∃ D, ClsIn W w.heap.size pre.length D (gone pre)) ∧ Aft w W)
    (fun _ _ _ => False)
    (OwnFrom.and (fun s X Y row hs hg hr => ⟨cell_kept hs.1 hg (fun r e => (hr r e).2), by
      obtain ⟨D, h1, h2, h3⟩ := hs.2
      exact ⟨D, h1.kept hg (fun e => by have := (hr _ e.symm).1; omega), h2, h3⟩⟩) (ownFrom_below (Nat.le_refl _) (by omega)))
    (fun _ _ _ _ _ hs _ _ => hs)
    ⟨⟨cM1, _, hm1⟩, hB0⟩
    (fun x a' W => ∃ (Bx : Nat) (u0 u1 u2 u4 u6 u7 u8 u9 u10 u11 u12 u13 u14 u15 u16 u17 u18 : Value), W.cell? ⟨Bx, 0, none⟩ = some (.int .i32 x.2.1.1) ∧ W.cell? ⟨Bx, 1, none⟩ = some (.int .u32 x.2.1.2) ∧ a' = { tmps := #[u0, u1, u2, .pointer (some ⟨w.heap.size + 1, 0, none⟩), u4, .pointer (some ⟨Bx, 0, none⟩), u6, u7, u8, u9, u10, u11, u12, u13, u14, u15, u16, u17, u18], defers := [] })
    (fun x a' _ X Y row hs hg hr => by
      obtain ⟨Bx, u0, u1, u2, u4, u6, u7, u8, u9, u10, u11, u12, u13, u14, u15, u16, u17, u18, h1, h2, h3⟩ := hs
      exact ⟨Bx, u0, u1, u2, u4, u6, u7, u8, u9, u10, u11, u12, u13, u14, u15, u16, u17, u18, cell_kept h1 hg (fun r e => (hr r e).2), cell_kept h2 hg (fun r e => (hr r e).2), h3⟩)
    ?assign ?body ?done ?stop
  case assign =>
    rintro l pre x W K ⟨⟨c1, D, hm⟩, hB⟩ hK
    have AL : Aft W (W.alloc (.cells #[.int .i32 x.2.1.1, .int .u32 x.2.1.2] 51)) := (Aft.refl W).alloc _
    have tc := two_cells W (.int .i32 x.2.1.1) (.int .u32 x.2.1.2) 51
    dsimp only [encL]
    gi_wp2
    exact hK _ _ ((KeepsOthers.alloc _ _).from _) ⟨(Below.refl _ W).alloc hB.size _, fun v hv => AL.cell hv⟩ ⟨⟨AL.cell c1, D, hm.aft AL⟩, hB.alloc _⟩ ⟨W.heap.size, _, _, _, _, _, _, _, _, _, _, _, _, _, _, _, _, _, tc.1, tc.2, rfl⟩
  case body =>
    rintro l pre x a' W hl _ ⟨⟨c1, D, hm⟩, hB⟩ ⟨Bx, u0, u1, u2, u4, u6, u7, u8, u9, u10, u11, u12, u13, u14, u15, u16, u17, u18, h1, h2, rfl⟩ hlt
    have hlt' : pre.length < n := by have := HL.out; omega
    have HM := Lib.hid hm
    clear hm
    gi_wp2_with (gi_at_mapUpdate; refine wpListIn_mapUpdate_own _ rfl _ _ _ 55 rfl 21 49 lawR Tryd.underlying55 _ w.heap.size pre.length _ rfl HM.out.own (by unfold maxLen; omega) _ _ _ rfl rfl (Maps.keyOf_int_mk Tryd.underlying21 x.2.2.1) _ [] (plainElem_int Tryd.underlying49 x.2.2.2) ?_; intro w1 hown1 hgrow1)
    obtain ⟨es, ck, hh, _⟩ := HM.out.own
    refine ⟨KeepsFrom.of_grownBy hgrow1 (fun j e => by cases e; omega), ⟨(Below.refl _ W).grown hgrow1 hB.size (fun k e => by cases e; exact Nat.le_refl _), fun v hv => cell_kept hv hgrow1 (fun r e => by cases e; exact ⟨_, hh, rfl⟩)⟩,
      ⟨cell_kept c1 hgrow1 (fun r e => by cases e; exact ⟨_, hh, rfl⟩), D.put (.int .i32 x.2.1.1) (.lit (.int .u32 x.2.1.2)), ?_⟩, hB.grown hgrow1 (fun k e => by cases e; exact Nat.le_refl _)⟩
    rw [gone_snoc, List.length_append]
    exact HM.out.put x.2.1 hown1
  case done =>
    rintro D ys W hD hy ⟨⟨c1, D1, hm⟩, hB⟩ hK
    have HM := Lib.hid hm
    clear hm
    gi_wp2
    refine ⟨by simp, .inl ⟨_, _, rfl, run_takeDeferred hK, ?_⟩⟩
    refine ⟨_, results_tmp rfl _ _ _, w.heap.size, ys.length, D1, rfl, ?_, Below.trans hB (belowK_b (w := w) (Nat.le_refl _) W D _ _ (by omega) hK rfl rfl)⟩
    have h := HM.out
    rw [gone_all hy] at h
    exact ⟨h.own.kept (grownBy_putObj' _ D _) (fun e => by cases e; omega), h.has, h.cls⟩
  case stop =>
    rintro D c pre W _ _ h _
    exact h.elim
end Go.Proofs.YtfjfgjncmliadaaDoor
