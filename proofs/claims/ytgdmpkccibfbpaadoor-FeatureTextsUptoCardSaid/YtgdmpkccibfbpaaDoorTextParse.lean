/-
  Parse returns the valid record with a text, or ErrSyntax. Condition: the text is of at most 2^25 bytes.
-/
import Derived.Test.YtgdmpkccibfbpaaDoorTextSplit
import Derived.Test.YtgdmpkccibfbpaaDoorChg
import Derived.Test.YtgdmpkccibfbpaaDoorFeatUnify
namespace Go.Proofs.YtgdmpkccibfbpaaDoor
open Go.RowKit Go.Shelf
open FeatPlain

attribute [local go_sem] Oper.semAt_some

abbrev sp : ByteArray := ⟨#[32]⟩
theorem splitSeq_any (s : ByteArray) (w : World) : Calls Tryd.prog 26 #[.string s, .string ⟨#[32]⟩, .int .i64 0] w (fun e w' => e = .returned (.func (.func 30) #[] #[.pointer (some ⟨w.heap.size + 1, 0, none⟩), .pointer (some ⟨w.heap.size, 0, none⟩), .pointer (some ⟨w.heap.size + 1 + 1, 0, none⟩)]) ∧
      w' = ((w.alloc (.cells #[.string s] 9)).alloc (.cells #[.string ⟨#[32]⟩] 9)).alloc (.cells #[.int .i64 0] 3)) := by
  go_enter Tryd.func26, Tryd.ntmps26
  go_wp2
  go_ret
  exact ⟨rfl, rfl⟩
theorem split_any (s : ByteArray) (w : World) : Calls Tryd.prog 19 #[.string s, .string ⟨#[32]⟩] w (fun e w' => e = .returned (.func (.func 30) #[] #[.pointer (some ⟨w.heap.size + 1, 0, none⟩), .pointer (some ⟨w.heap.size, 0, none⟩), .pointer (some ⟨w.heap.size + 1 + 1, 0, none⟩)]) ∧
      w' = ((w.alloc (.cells #[.string s] 9)).alloc (.cells #[.string ⟨#[32]⟩] 9)).alloc (.cells #[.int .i64 0] 3)) := by
  have hc := splitSeq_any s w
  have HC := Lib.hid hc
  clear hc
  go_enter Tryd.func19, Tryd.ntmps19
  go_wp2_with fail
  refine HC.out.mono ?_
  rintro e w1 ⟨rfl, rfl⟩
  go_wp2
  go_ret
  exact ⟨rfl, rfl⟩

theorem split_seq (n : Nat) (hn : 1 ≤ n) (H : Nat) (s : ByteArray) (w : World) (bs : Boxed w H 9 (.string s)) (bp : Boxed w (H + 1) 9 (.string ⟨#[32]⟩)) (bv : Boxed w (H + 1 + 1) 3 (.int .i64 0)) (hsz : s.size ≤ 1099511627776) :
    SeqZ Fence.wide n Tryd.prog 30 #[.pointer (some ⟨H + 1, 0, none⟩), .pointer (some ⟨H, 0, none⟩), .pointer (some ⟨H + 1 + 1, 0, none⟩)] (fun x : Str40 => #[Value.string x.1]) (KpS (H + 1) H (H + 1 + 1)) (StpS H)
      (fun xs => xs.map tl = parts s.data.toList) (fun pre => pre.map tl <+: parts s.data.toList) (parts s.data.toList).length w := fun l J Jx W hW hJ _ hY h0 => by
  have c : Chg [] 0 w W := Chg.of_aft hW (Nat.zero_le _)
  exact split_in n hn l (H + 1) H (H + 1 + 1) s J Jx W hY hJ (c.box bp (by simp)) (c.box bs (by simp)) (c.box bv (by simp)) (by omega) (by omega) h0 hsz

theorem row_own {W W' : World} {base : Nat} {e : TypeId} {size : Nat} {v : Value} {n : Nat} {xs : List Value} {row : Option Nat} (h : W.ownsRow base e size v n xs) (hg : W.grownBy W' row) (hr : ∀ r, row = some r → ∃ o : Obj, W.heap[r]? = some o ∧ o.isCells = false) : W'.ownsRow base e size v n xs := by
  refine ⟨h.1, ?_⟩
  rcases h.2 with k | ⟨g, cap, cur, e1, e2, e3, e4⟩
  · exact .inl k
  · refine .inr ⟨g, cap, cur, e1, e2, (hg.block g (Array.getElem?_eq_some_iff.1 e3).1 (fun e => ?_)).trans e3, e4⟩
    obtain ⟨o, ho, hc⟩ := hr g e.symm
    rw [e3] at ho
    cases ho
    cases hc

def ParsePost (w : World) (r : Option (List Ft)) (e : Ending) (w' : World) : Prop :=
  Aft w w' ∧ match r with
  | none => e = .returned (.tuple #[.slice none 0 0, .int .i64 3])
  | some l => ∃ A n c, e = .returned (.tuple #[.slice A n c, .int .i64 0]) ∧ Sl w' A n c l

/-- What holds between two rounds: H is the first of Parse's boxes. -/
structure PInv (w : World) (H : Nat) (pre : List Str40) (W : World) : Prop where
  ex : ∃ (l : List Ft) (a : Option Addr) (c : Nat), feats (pre.map tl) = some l ∧ Boxed W (H + 1 + 1) 22 (.slice a l.length c) ∧ W.ownsRow w.heap.size 34 2 (.slice a l.length c) l.length (flat l) ∧ Sized l
  r0 : Boxed W H 22 (.slice none 0 0)
  r1 : Boxed W (H + 1) 26 (.int .i64 0)
  bs : ∃ T : ByteArray, Boxed W (H + 1 + 1 + 1) 9 (.string T)
  bp : Boxed W (H + 1 + 1 + 1 + 1) 9 (.string ⟨#[32]⟩)
  bv : Boxed W (H + 1 + 1 + 1 + 1 + 1) 3 (.int .i64 0)
  aft : Aft w W
structure PInx (w : World) (H : Nat) (c : Code) (pre : List Str40) (W : World) : Prop where
  jump : c = .ret
  ex : ∃ q x, pre = q ++ [x] ∧ ftOf (tl x) = none
  r0 : Boxed W H 22 (.slice none 0 0)
  r1 : Boxed W (H + 1) 26 (.int .i64 3)
  aft : Aft w W

theorem PInv.own {w w0 : World} {H : Nat} (h0 : H + 1 + 1 + 1 + 1 + 1 < w0.heap.size) (hw : w.heap.size ≤ w0.heap.size) : OwnFrom w0.heap.size (PInv w H) := fun s X Y row h hg hr => by
  have ne : ∀ b, b < w0.heap.size → some b ≠ row := fun b hb e => by have := (hr b e.symm).1; omega
  obtain ⟨l, a, c, h1, h2, h3, h4⟩ := h.ex
  obtain ⟨T, hT⟩ := h.bs
  exact ⟨⟨l, a, c, h1, h2.kept hg (ne _ (by omega)), row_own h3 hg (fun r e => (hr r e).2), h4⟩, h.r0.kept hg (ne _ (by omega)), h.r1.kept hg (ne _ (by omega)), ⟨T, hT.kept hg (ne _ (by omega))⟩, h.bp.kept hg (ne _ (by omega)), h.bv.kept hg (ne _ (by omega)), h.aft.grown hg (fun k e => by have := (hr k e).1; omega)⟩
theorem PInx.own {w w0 : World} {H : Nat} (h0 : H + 1 + 1 + 1 + 1 + 1 < w0.heap.size) (hw : w.heap.size ≤ w0.heap.size) (c : Code) : OwnFrom w0.heap.size (PInx w H c) := fun s X Y row h hg hr => by
  have ne : ∀ b, b < w0.heap.size → some b ≠ row := fun b hb e => by have := (hr b e.symm).1; omega
  exact ⟨h.jump, h.ex, h.r0.kept hg (ne _ (by omega)), h.r1.kept hg (ne _ (by omega)), h.aft.grown hg (fun k e => by have := (hr k e).1; omega)⟩
theorem PInv.chg {w A B : World} {H : Nat} {pre : List Str40} (h : PInv w H pre A) (k : Chg [9] w.heap.size A B) (hs : ∃ T : ByteArray, Boxed B (H + 1 + 1 + 1) 9 (.string T)) (hp : Boxed B (H + 1 + 1 + 1 + 1) 9 (.string ⟨#[32]⟩)) : PInv w H pre B := by
  obtain ⟨l, a, c, h1, h2, h3, h4⟩ := h.ex
  exact ⟨⟨l, a, c, h1, k.box h2 (by decide), k.row h3 (by decide), h4⟩, k.box h.r0 (by decide), k.box h.r1 (by decide), hs, hp, k.box h.bv (by decide), k.aft0 h.aft (Nat.le_refl _)⟩
theorem PInv.stp {w A B : World} {H : Nat} {pre : List Str40} (hH : w.heap.size ≤ H) (h : PInv w H pre A) (k : StpS (H + 1 + 1 + 1) A B) : PInv w H pre B := by
  obtain ⟨x, hx, y, rfl⟩ := k
  exact h.chg (Chg.set hx _ (by omega) h.aft.size) ⟨y, hx.set _⟩ (h.bp.other (by omega) _)
theorem PInx.stp {w A B : World} {H : Nat} {c : Code} {pre : List Str40} (hH : w.heap.size ≤ H) (h : PInx w H c pre A) (k : StpS (H + 1 + 1 + 1) A B) : PInx w H c pre B := by
  obtain ⟨x, hx, y, rfl⟩ := k
  exact ⟨h.jump, h.ex, h.r0.other (by omega) _, h.r1.other (by omega) _, h.aft.setCell (p := ⟨H + 1 + 1 + 1, 0, none⟩) (by simp; omega) _⟩

/-- How Parse returns. -/
theorem pret0 {w W : World} {H : Nat} {r : Option (List Ft)} {v : Value} {x : Int} {tmps : Array Value} (b0 : Boxed W H 22 v) (b1 : Boxed W (H + 1) 26 (.int .i64 x)) (hp : ParsePost w r (.returned (.tuple #[v, .int .i64 x])) W)
    (h2 : tmps[2]? = some (.pointer (some ⟨H, 0, none⟩))) (h3 : tmps[3]? = some (.pointer (some ⟨H + 1, 0, none⟩))) :
    bodyPostM Fence.wide 3 Tryd.prog Tryd.f7 (ParsePost w r) .ret { tmps := tmps, defers := [] } W := by
  have e0 := b0.cell
  have e1 := b1.cell
  refine ⟨_, ?_, hp⟩
  simp [results, Tryd.f7, go_sem, e0, e1, h2, h3]
theorem pret1 {w W : World} {H D : Nat} {r : Option (List Ft)} {v : Value} {x : Int} {tmps : Array Value} (hD : H + 1 < D) (hK : W.heap[D]? = some (.deferred (some []))) (b0 : Boxed W H 22 v) (b1 : Boxed W (H + 1) 26 (.int .i64 x)) (hp : ParsePost w r (.returned (.tuple #[v, .int .i64 x])) (W.putObj D (.deferred none)))
    (h2 : tmps[2]? = some (.pointer (some ⟨H, 0, none⟩))) (h3 : tmps[3]? = some (.pointer (some ⟨H + 1, 0, none⟩))) :
    bodyPostM Fence.wide 3 Tryd.prog Tryd.f7 (ParsePost w r) .ret { tmps := tmps, defers := [{ target := .collected D, args := #[] }] } W := by
  refine ⟨by simp, .inl ⟨_, _, rfl, run_takeDeferred hK, ?_⟩⟩
  have hg := grownBy_putObj' W D (.deferred none)
  have e0 := (b0.kept hg (fun e => by cases e; omega)).cell
  have e1 := (b1.kept hg (fun e => by cases e; omega)).cell
  refine ⟨_, ?_, hp⟩
  simp [results, Tryd.f7, go_sem, e0, e1, h2, h3]

theorem name_act {P : Program} {c : Code} {Q : Exit → Act → World → Prop} {a : Act} {w : World} (h : ∀ a0, a0 = a → c.wp P Q a0 w) : c.wp P Q a w := h a rfl
theorem sl_row {w : World} {base c : Nat} {a : Option Addr} {fs : List Ft} (h : w.ownsRow base 34 2 (.slice a fs.length c) fs.length (flat fs)) (hm : fs.length * 32 ≤ 281474976710656) : Sl w a fs.length c fs := by
  rcases h.2 with ⟨e, h0⟩ | ⟨g, cap, cur, e, _, _, hle, _, _⟩
  · have : fs = [] := List.length_eq_zero_iff.1 h0
    subst this
    cases e
    exact Sl.nil (by omega) (fun _ => rfl)
  · cases e
    exact Sl.of_own h rfl hle hm
theorem PInv.drewN {w W : World} {H : Nat} {pre : List Str40} (h : PInv w H pre W) (n : Nat) : PInv w H pre (W.drewN n) :=
  ⟨h.ex, h.r0, h.r1, h.bs, h.bp, h.bv, h.aft.drewN n⟩

theorem cut_sized {x : Str40} {a b : Bt} (h : cutB 61 (tl x) = some (a, b)) : (ba a).size ≤ maxLen ∧ (ba b).size ≤ maxLen := by
  have h1 := congrArg List.length (cutB_eq h)
  have h2 : (tl x).length = x.1.size := Array.length_toList
  have h3 := x.2
  rw [List.length_append, List.length_cons] at h1
  rw [ba_size, ba_size]
  unfold maxLen
  omega

/-- What lies behind a round that went on: the feature f is appended. -/
theorem PInv.next {w W w8 : World} {H g8 c8 : Nat} {pre : List Str40} {l : List Ft} {v : Value} {x : Str40} {f : Ft} {o : Obj} (hH : w.heap.size ≤ H) (h : PInv w H pre W) (hl : feats (pre.map tl) = some l) (hz : Sized l) (hf : ftOf (tl x) = some f) (hfz : f.1.size ≤ maxLen ∧ f.2.size ≤ maxLen)
    (bo : Boxed W (H + 1 + 1) 22 v) (ro : W.ownsRow w.heap.size 34 2 v l.length (flat l)) (own8 : w8.ownsRow w.heap.size 34 2 (.slice (some ⟨g8, 0, none⟩) (l.length + 1) c8) (l.length + 1) (flat l ++ flat [f])) (g : (W.alloc o).grownBy w8 v.ownBlock) :
    Boxed w8 (H + 1 + 1) 22 v ∧ KeepsOthers W (w8.setCell ⟨H + 1 + 1, 0, none⟩ (.slice (some ⟨g8, 0, none⟩) (l.length + 1) c8)) ∧ KpS (H + 1 + 1 + 1 + 1) (H + 1 + 1 + 1) (H + 1 + 1 + 1 + 1 + 1) W (w8.setCell ⟨H + 1 + 1, 0, none⟩ (.slice (some ⟨g8, 0, none⟩) (l.length + 1) c8)) ∧
      PInv w H (pre ++ [x]) (w8.setCell ⟨H + 1 + 1, 0, none⟩ (.slice (some ⟨g8, 0, none⟩) (l.length + 1) c8)) := by
  have hB := h.aft.size
  have c78 : Chg [34] w.heap.size W w8 := (Chg.of_aft ((Aft.refl W).alloc o) hB).trans (Chg.of_grown g (by simp; omega) (fun r hr => ⟨(row_type (ro.alloc o) r hr).1, fun cur t h => by rw [(row_type (ro.alloc o) r hr).2 cur t h]; exact List.mem_singleton.2 rfl⟩))
  have b8 := c78.box bo (by decide)
  obtain ⟨T, hT⟩ := h.bs
  have e1 := (c78.box hT (by decide)).other (B' := H + 1 + 1) (by omega) (.slice (some ⟨g8, 0, none⟩) (l.length + 1) c8)
  have e2 := (c78.box h.bp (by decide)).other (B' := H + 1 + 1) (by omega) (.slice (some ⟨g8, 0, none⟩) (l.length + 1) c8)
  have e3 := (c78.box h.bv (by decide)).other (B' := H + 1 + 1) (by omega) (.slice (some ⟨g8, 0, none⟩) (l.length + 1) c8)
  have e4 := (c78.box h.r0 (by decide)).other (B' := H + 1 + 1) (by omega) (.slice (some ⟨g8, 0, none⟩) (l.length + 1) c8)
  have e5 := (c78.box h.r1 (by decide)).other (B' := H + 1 + 1) (by omega) (.slice (some ⟨g8, 0, none⟩) (l.length + 1) c8)
  have c89 : Chg [22] w.heap.size w8 (w8.setCell ⟨H + 1 + 1, 0, none⟩ (.slice (some ⟨g8, 0, none⟩) (l.length + 1) c8)) := Chg.set b8 _ (by omega) (by have := c78.size; omega)
  refine ⟨b8, ?_, ⟨e2.trans h.bp.symm, e1.trans hT.symm, e3.trans h.bv.symm⟩, ⟨l ++ [f], some ⟨g8, 0, none⟩, c8, ?_, ?_, ?_, ?_⟩, e4, e5, ⟨T, e1⟩, e2, e3, (c78.aft0 h.aft (Nat.le_refl _)).setCell (p := ⟨H + 1 + 1, 0, none⟩) (by simp; omega) _⟩
  · refine ((KeepsOthers.alloc W o).trans (KeepsOthers.of_grownBy g fun j o' ej hj => ?_)).trans (KeepsOthers.setCell _ _ _)
    rcases (ro.alloc o).2 with ⟨rfl, _⟩ | ⟨g', cap, cur, rfl, _, hgb, _⟩
    · cases ej
    · cases ej
      rw [hgb] at hj
      cases hj
      rfl
  · rw [List.map_append, List.map_singleton]
    exact feats_snoc hl hf
  · rw [List.length_append]
    exact b8.set _
  · rw [List.length_append, flat_append]
    exact c89.row own8 (by decide)
  · intro f' hf'
    rcases List.mem_append.1 hf' with k | k
    · exact hz f' k
    · simp at k
      subst k
      exact hfz

set_option maxRecDepth 100000 in
set_option maxHeartbeats 6400000 in
theorem parse_any (s : ByteArray) (w : World) (hs : s.size ≤ 33554432) : Calls Tryd.prog 7 #[.string s] w (ParsePost w (res s.data.toList)) := by
  obtain ⟨i0, hi, hz0, hz1, hz2⟩ := info_parts Tryd.infoF
  have b0 := Boxed.new w 22 (.slice none 0 0)
  have b1 := Boxed.new (w.alloc (.cells #[.slice none 0 0] 22)) 26 (.int .i64 0)
  rw [World.size_alloc] at b1
  have AL : Aft w ((w.alloc (.cells #[.slice none 0 0] 22)).alloc (.cells #[.int .i64 0] 26)) := ((Aft.refl w).alloc _).alloc _
  have b0' := b0.alloc (.cells #[.int .i64 0] 26)
  by_cases he : s.size = 0
  · have hd : s.data.toList = [] := List.length_eq_zero_iff.1 (by rw [Array.length_toList]; exact he)
    have hem : s.toList.isEmpty = true := by rw [Lib.toList_data, hd]; rfl
    have HD := Lib.hid hd
    have k0 := b0'.cell
    have f0 := b0'.frozen
    have k1 := b1.cell
    have f1 := b1.frozen
    clear hd he
    refine (callsIn_wide (n := 3)).1 ?_
    refine callsIn_of_wp_marks Tryd.func7 rfl trivial ?_ rfl
    simp only [Tryd.ntmps7, List.size_toArray, List.length_cons, List.length_nil, Nat.reduceAdd, Nat.reduceSub, Array.replicate_succ, Array.replicate_zero, List.push_toArray, List.append_toArray, List.nil_append, List.cons_append]
    refine wpIn_wide.2 ?_
    go_wp2
    exact pret0 b0' b1 ⟨AL, by rw [HD.out, res_nil]; exact ⟨none, 0, 0, rfl, Sl.nil (by omega) (fun _ => rfl)⟩⟩ rfl rfl
  have hd : s.data.toList ≠ [] := fun e => he (by have h := congrArg List.length e; rw [Array.length_toList] at h; exact h)
  have hem : s.toList.isEmpty = false := by
    rw [Lib.toList_data]
    cases h : s.data.toList with
    | nil => exact absurd h hd
    | cons x l => rfl
  have HD := Lib.hid hd
  have hpl := parts_len s.data.toList
  have hsl : s.data.toList.length = s.size := Array.length_toList
  have hplen : (parts s.data.toList).length ≤ 33554433 := by omega
  clear hd he hpl hsl
  refine (callsIn_wide (n := 3)).1 ?_
  refine callsIn_of_wp_marks Tryd.func7 rfl trivial ?_ rfl
  simp only [Tryd.ntmps7, List.size_toArray, List.length_cons, List.length_nil, Nat.reduceAdd, Nat.reduceSub, Array.replicate_succ, Array.replicate_zero, List.push_toArray, List.append_toArray, List.nil_append, List.cons_append]
  refine wpIn_wide.2 ?_
  go_wp2_with fail
  refine (split_any s _).mono ?_
  rintro e w1 ⟨rfl, hw1⟩
  simp only [World.size_alloc] at hw1 ⊢
  have hbs : Boxed w1 (w.heap.size + 1 + 1 + 1) 9 (.string s) := by
    rw [hw1]
    have h := Boxed.new (((w.alloc (.cells #[.slice none 0 0] 22)).alloc (.cells #[.int .i64 0] 26)).alloc (.cells #[.slice none 0 0] 22)) 9 (.string s)
    simp only [World.size_alloc] at h
    exact (h.alloc _).alloc _
  have hbp : Boxed w1 (w.heap.size + 1 + 1 + 1 + 1) 9 (.string ⟨#[32]⟩) := by
    rw [hw1]
    have h := Boxed.new ((((w.alloc (.cells #[.slice none 0 0] 22)).alloc (.cells #[.int .i64 0] 26)).alloc (.cells #[.slice none 0 0] 22)).alloc (.cells #[.string s] 9)) 9 (.string ⟨#[32]⟩)
    simp only [World.size_alloc] at h
    exact h.alloc _
  have hbv : Boxed w1 (w.heap.size + 1 + 1 + 1 + 1 + 1) 3 (.int .i64 0) := by
    rw [hw1]
    have h := Boxed.new (((((w.alloc (.cells #[.slice none 0 0] 22)).alloc (.cells #[.int .i64 0] 26)).alloc (.cells #[.slice none 0 0] 22)).alloc (.cells #[.string s] 9)).alloc (.cells #[.string ⟨#[32]⟩] 9)) 3 (.int .i64 0)
    simp only [World.size_alloc] at h
    exact h
  have hbo : Boxed w1 (w.heap.size + 1 + 1) 22 (.slice none 0 0) := by
    rw [hw1]
    have h := Boxed.new ((w.alloc (.cells #[.slice none 0 0] 22)).alloc (.cells #[.int .i64 0] 26)) 22 (.slice none 0 0)
    simp only [World.size_alloc] at h
    exact ((h.alloc _).alloc _).alloc _
  have hA1 : Aft w w1 := by rw [hw1]; exact (((AL.alloc _).alloc _).alloc _).alloc _
  have hP : PInv w w.heap.size [] w1 := by
    refine ⟨⟨[], none, 0, rfl, hbo, World.ownsRow_nil _ _ _ _, fun f hf => by cases hf⟩, ?_, ?_, ⟨s, hbs⟩, hbp, hbv, hA1⟩
    · rw [hw1]; exact (((b0'.alloc _).alloc _).alloc _).alloc _
    · rw [hw1]; exact (((b1.alloc _).alloc _).alloc _).alloc _
  have hsz1 := hbv.lt
  clear hw1 b0 b1 AL b0' hbo
  go_wp2
  refine name_act ?_
  intro a0 ha0
  refine (wpIn_wide (n := 3)).1 ?_
  refine range_st rfl (by omega) (gf := 30) (lb := #[.pointer (some ⟨w.heap.size + 1 + 1 + 1 + 1, 0, none⟩), .pointer (some ⟨w.heap.size + 1 + 1 + 1, 0, none⟩), .pointer (some ⟨w.heap.size + 1 + 1 + 1 + 1 + 1, 0, none⟩)]) (by rw [ha0]; rfl) trivial (enters_of Tryd.func30 (by kernel_rfl) rfl)
    (split_seq 2 (by omega) (w.heap.size + 1 + 1 + 1) s w1 hbs hbp hbv (by omega)) (fun _ => rfl)
    (fun h k => ⟨k.1.trans h.1, k.2.1.trans h.2.1, k.2.2.trans h.2.2⟩) (fun W l o o' hl _ _ _ => ⟨World.putObj_heap_other (by omega), World.putObj_heap_other (by omega), World.putObj_heap_other (by omega)⟩)
    (fun X Y ⟨x, hx, y, e⟩ => by rw [e]; exact (KeepsOthers.setCell _ _ _).from _)
    (PInv w w.heap.size) (PInx w w.heap.size) (PInv.own hsz1 hA1.size) (PInx.own hsz1 hA1.size) (fun _ _ _ h k => h.stp (Nat.le_refl _) k) (fun _ _ _ _ h k => h.stp (Nat.le_refl _) k) hP
    (fun x => { tmps := (a0.tmps.setIfInBounds 13 (.string x.1)).setIfInBounds 5 (.string x.1), defers := [] }) ?assign ?body ?done ?stop
  case assign =>
    intro l' x' W K hK
    subst ha0
    simp only [List.setIfInBounds_toArray, List.set_cons_zero, List.set_cons_succ] at hK
    gi_wp2
    exact hK
  case body =>
    rintro l' pre x W hInv hlen
    obtain ⟨l, a, c, h1, h2, h3, h4⟩ := hInv.ex
    have hll : l.length ≤ 33554433 := by
      have := feats_len h1
      rw [List.length_map] at this
      omega
    have H1 := Lib.hid h1
    have hcut := fun W' => cut_any x.1 W' x.2
    cases hc : cutB 61 (tl x) with
    | none =>
      have hv : cutV x.1 = .tuple #[.string x.1, .string ⟨#[]⟩, .bool false] := by rw [cutV, show x.1.data.toList = tl x from rfl, hc]
      rw [hv] at hcut
      have HC := Lib.hid hcut
      have HX : ftOf (tl x) = none := by rw [ftOf, hc]; rfl
      have HX := Lib.hid HX
      clear hcut hv hc h1
      subst ha0
      simp only [List.setIfInBounds_toArray, List.set_cons_zero, List.set_cons_succ]
      gi_wp2_with (refine ⟨trivial, ?_⟩; gi_at_call 20; refine (CallsIn.inRound l' (callsIn_wide.2 (HC.out _))).mono ?_; rintro e' w2 ⟨rfl, hq⟩; have hh : w2.heap = W.heap := (by obtain ⟨n, rfl⟩ := hq; rfl); have A2 := quiet_aft hq; have r0 : Boxed w2 w.heap.size 22 (.slice none 0 0) := (by unfold Boxed; rw [hh]; exact hInv.r0); have r1 : Boxed w2 (w.heap.size + 1) 26 (.int .i64 0) := (by unfold Boxed; rw [hh]; exact hInv.r1); have r1' := r1.other (B' := w.heap.size) (by omega) (.slice none 0 0); have k0 := r0.cell; have f0 := r0.frozen; have k1 := r1'.cell; have f1 := r1'.frozen; have KO : KeepsOthers W w2 := ⟨by rw [hh]; exact Nat.le_refl _, fun k o h _ => by rw [hh]; exact h⟩)
      exact ⟨((KO.trans (KeepsOthers.setCell _ _ _)).trans (KeepsOthers.setCell _ _ _)).from _, rfl, ⟨pre, x, rfl, HX.out⟩, (r0.set _).other (by omega) _, r1'.set _, ((hInv.aft.trans A2).setCell (p := ⟨w.heap.size, 0, none⟩) (Nat.le_refl _) _).setCell (p := ⟨w.heap.size + 1, 0, none⟩) (by simp) _⟩
    | some ab =>
      obtain ⟨na, nb⟩ := ab
      have hv : cutV x.1 = .tuple #[.string (ba na), .string (ba nb), .bool true] := by rw [cutV, show x.1.data.toList = tl x from rfl, hc]
      rw [hv] at hcut
      have HC := Lib.hid hcut
      have HX : ftOf (tl x) = some (ba na, ba nb) := by rw [ftOf, hc]; rfl
      have HX := Lib.hid HX
      have HZ := Lib.hid (cut_sized hc)
      clear hcut hv hc h1
      generalize ba na = va at *
      generalize ba nb = vb at *
      subst ha0
      simp only [List.setIfInBounds_toArray, List.set_cons_zero, List.set_cons_succ]
      gi_wp2_with (first | (gi_at_builtin; refine wpListIn_append_own _ rfl _ _ 22 rfl w.heap.size 34 i0 _ 2 32 Tryd.underlying22 hi hz0 hz1 hz2 rfl (by decide) _ _ _ rfl (ro.alloc _) ⟨w2.heap.size, 0, none⟩ 1 1 (flat [(va, vb)]) rfl rfl (one_cells w2 (va, vb)) (flat_one _) (by unfold maxLen; omega) (by omega) (by have := hI2.aft.size; simp; omega) ?_; intro v8 w8 own8 grow8 _; obtain ⟨g8, c8, rfl⟩ := ownsRow_succ own8; obtain ⟨bo8, KO8, Kp8, P8⟩ := PInv.next (Nat.le_refl _) hI2 H1.out h4 HX.out HZ.out bo ro own8 grow8; have ko8 := bo8.cell; have fo8 := bo8.frozen) | (refine ⟨trivial, ?_⟩; gi_at_call 20; refine (CallsIn.inRound l' (callsIn_wide.2 (HC.out _))).mono ?_; rintro e' w2 ⟨rfl, hq⟩; have hh : w2.heap = W.heap := (by obtain ⟨n, rfl⟩ := hq; rfl); have hI2 : PInv w w.heap.size pre w2 := (by obtain ⟨n, rfl⟩ := hq; exact hInv.drewN n); have bo : Boxed w2 (w.heap.size + 1 + 1) 22 (.slice a l.length c) := (by unfold Boxed; rw [hh]; exact h2); have ro : w2.ownsRow w.heap.size 34 2 (.slice a l.length c) l.length (flat l) := (by obtain ⟨n, rfl⟩ := hq; exact h3); have ko := bo.cell; have KO : KeepsOthers W w2 := ⟨by rw [hh]; exact Nat.le_refl _, fun k o h _ => by rw [hh]; exact h⟩; have KP : KpS (w.heap.size + 1 + 1 + 1 + 1) (w.heap.size + 1 + 1 + 1) (w.heap.size + 1 + 1 + 1 + 1 + 1) W w2 := ⟨by rw [hh], by rw [hh], by rw [hh]⟩; clear hh hq))
      exact ⟨(KO.trans KO8).from _, ⟨Kp8.1.trans KP.1, Kp8.2.1.trans KP.2.1, Kp8.2.2.trans KP.2.2⟩, P8⟩
  case done =>
    rintro D xs W hD hxs hInv hK
    obtain ⟨l, a, c, h1, h2, h3, h4⟩ := hInv.ex
    have hll : l.length ≤ 33554433 := by
      have := feats_len h1
      rw [List.length_map] at this
      have h5 := congrArg List.length hxs
      rw [List.length_map] at h5
      omega
    rw [hxs] at h1
    have H1 := Lib.hid h1
    have hsl := sl_row h3 (by omega)
    have hval := fun (h : Sl W a l.length c l) => valid_any a l.length c l W h h4
    have hDs : w.heap.size + 1 < D := by omega
    have hDl : D < W.heap.size := (Array.getElem?_eq_some_iff.1 hK).1
    have ko := h2.cell
    have HV := Lib.hid (hval hsl)
    clear hval hxs h1
    subst ha0
    cases hvb : validB l
    · have HRS := Lib.hid (res_wrong HD.out H1.out hvb)
      rw [hvb] at HV
      go_wp2_with fail
      refine HV.out.mono ?_
      rintro e w2 ⟨rfl, A2⟩
      have k2 := Chg.of_aft (ts := []) (B := 0) A2 (Nat.zero_le _)
      have r0 := k2.box hInv.r0 (by simp)
      have r1 := k2.box hInv.r1 (by simp)
      have r1' := r1.other (B' := w.heap.size) (by omega) (.slice none 0 0)
      have k0 := r0.cell
      have f0 := r0.frozen
      have k1 := r1'.cell
      have f1 := r1'.frozen
      have hK2 : w2.heap[D]? = some (.deferred (some [])) := (A2.block D hDl).trans hK
      have hK4 := ((KeepsOthers.setCell w2 ⟨w.heap.size, 0, none⟩ (.slice none 0 0)).trans (KeepsOthers.setCell _ ⟨w.heap.size + 1, 0, none⟩ (.int .i64 3))).same D _ hK2 rfl
      have A4 := ((hInv.aft.trans A2).setCell (p := ⟨w.heap.size, 0, none⟩) (Nat.le_refl _) (.slice none 0 0)).setCell (p := ⟨w.heap.size + 1, 0, none⟩) (by simp) (.int .i64 3)
      go_wp2
      exact pret1 hDs hK4 ((r0.set _).other (by omega) _) (r1'.set _) ⟨A4.grown (grownBy_putObj' _ D _) (fun k e => by cases e; omega), by rw [HRS.out]⟩ rfl rfl
    · have HRS := Lib.hid (res_good HD.out H1.out hvb)
      rw [hvb] at HV
      go_wp2_with fail
      refine HV.out.mono ?_
      rintro e w2 ⟨rfl, A2⟩
      have k2 := Chg.of_aft (ts := []) (B := 0) A2 (Nat.zero_le _)
      have r0 := k2.box hInv.r0 (by simp)
      have r1 := k2.box hInv.r1 (by simp)
      have bo2 := k2.box h2 (by simp)
      have ro2 := k2.row h3 (by simp)
      have ko2 := bo2.cell
      have r1' := r1.other (B' := w.heap.size) (by omega) (.slice a l.length c)
      have k0 := r0.cell
      have f0 := r0.frozen
      have k1 := r1'.cell
      have f1 := r1'.frozen
      have hK2 : w2.heap[D]? = some (.deferred (some [])) := (A2.block D hDl).trans hK
      have hK4 := ((KeepsOthers.setCell w2 ⟨w.heap.size, 0, none⟩ (.slice a l.length c)).trans (KeepsOthers.setCell _ ⟨w.heap.size + 1, 0, none⟩ (.int .i64 0))).same D _ hK2 rfl
      have A4 := ((hInv.aft.trans A2).setCell (p := ⟨w.heap.size, 0, none⟩) (Nat.le_refl _) (.slice a l.length c)).setCell (p := ⟨w.heap.size + 1, 0, none⟩) (by simp) (.int .i64 0)
      have ro4 := (Chg.set r1' (.int .i64 0) (B := 0) (Nat.zero_le _) (Nat.zero_le _)).row ((Chg.set r0 (.slice a l.length c) (B := 0) (Nat.zero_le _) (Nat.zero_le _)).row ro2 (by decide)) (by decide)
      have ro5 := row_own ro4 (grownBy_putObj' _ D (.deferred none)) (fun r e => by cases e; exact ⟨_, hK4, rfl⟩)
      have hsl5 := sl_row ro5 (by omega)
      go_wp2
      exact pret1 hDs hK4 ((r0.set _).other (by omega) _) (r1'.set _) ⟨A4.grown (grownBy_putObj' _ D _) (fun k e => by cases e; omega), by rw [HRS.out]; exact ⟨_, _, _, rfl, hsl5⟩⟩ rfl rfl
  case stop =>
    rintro D c pre W hD hpre ⟨rfl, ⟨q, x, rfl, hx⟩, r0, r1, hA⟩ hK
    have hbad : feats (parts s.data.toList) = none := by
      refine feats_bad (p := tl x) ?_ hx
      refine hpre.subset ?_
      rw [List.map_append]
      exact List.mem_append_right _ (by simp)
    have HRS := Lib.hid (res_bad HD.out hbad)
    have hDs : w.heap.size + 1 < D := by omega
    clear hbad hpre
    subst ha0
    gi_wp2
    exact pret1 hDs hK r0 r1 ⟨hA.grown (grownBy_putObj' _ D _) (fun k e => by cases e; omega), by rw [HRS.out]⟩ rfl rfl
end Go.Proofs.YtgdmpkccibfbpaaDoor
