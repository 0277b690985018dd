/-
  A table with the entries of a list of records finds the first one that subsumes a query and iterates over all of them in order: the law FeatureTables returns true. Conditions: none.
-/
import Derived.Test.YtgdmpkccibfbpaaFeatTabRef
import Derived.Test.YtgdmpkccibfbpaaFeatAwake
import Derived.Test.YtgdmpkccibfbpaaFeatFrame
import Derived.Test.YtgdmpkccibfbpaaRows
namespace Go.Proofs.Ytgdmpkccibfbpaa.lawTables
open Go.RowKit Go.Shelf Go.ChangeShapes Go.WideShapes Go.ChangeAt Go.Deep

open FeatPlain

attribute [local go_sem] Oper.semAt_some

/-- THE SLICE '.slice A n c' HOLDS SLICES OF FEATURES. -/
structure Sls (w : World) (A : Option Addr) (n c : Nat) (ess : List (List Ft)) : Prop where
  len : ess.length = n
  le : n ≤ c
  cmax : c ≤ 9223372036854775807
  cells : ∀ i fs, ess[i]? = some fs → ∃ b off B m d, A = some ⟨b, off, none⟩ ∧ w.cell? ⟨b, off + i, none⟩ = some (.slice B m d) ∧ Sl w B m d fs ∧ m * 32 ≤ 140737488355328
theorem Sls.at_ {w : World} {A : Option Addr} {n c k : Nat} {ess : List (List Ft)} (h : Sls w A n c ess) (hk : k < n) :
    ∃ b off B m d fs, A = some ⟨b, off, none⟩ ∧ ess[k]? = some fs ∧ w.cell? ⟨b, off + k, none⟩ = some (.slice B m d) ∧ Sl w B m d fs ∧ m * 32 ≤ 140737488355328 := by
  have hl : k < ess.length := by have := h.len; omega
  have hi : ess[k]? = some ess[k] := List.getElem?_eq_getElem hl
  obtain ⟨b, off, B, m, d, h1, h2, h3, h4⟩ := h.cells k _ hi
  exact ⟨b, off, B, m, d, _, h1, hi, h2, h3, h4⟩

/-- The entries of the table: the records with their numbers, from 1. -/
def ents (ess : List (List Ft)) : List En := ess.mapIdx fun i fs => (fs, (i : Int) + 1)
theorem ents_len (ess : List (List Ft)) : (ents ess).length = ess.length := by simp [ents]
theorem ents_at {ess : List (List Ft)} {k : Nat} {fs : List Ft} (h : ess[k]? = some fs) : (ents ess)[k]? = some (fs, (k : Int) + 1) := by simp [ents, h]
def ints (l : List Int) : List Value := l.map (Value.int .i64)
theorem ints_append (a b : List Int) : ints (a ++ b) = ints a ++ ints b := List.map_append
theorem ints_one (l : List Int) : ∀ u ∈ ints l, u.oneCell' = true := by
  intro u hu
  obtain ⟨s, _, rfl⟩ := List.mem_map.1 hu
  rfl
theorem Try.infoI : (Try.prog.info? 3).map (fun i => (i.zero, i.size, i.bytes)) = some (some (.int .i64 0), 1, 8) := by kernel_rfl
theorem one_int (w : World) (x : Int) : ∀ j u, (ints [x])[j]? = some u → (w.alloc (.cells #[.int .i64 x] 3)).cell? ((⟨w.heap.size, 0, none⟩ : Addr).add j) = some u := by
  intro j u hj
  match j, hj with
  | 0, hj => simp [ints] at hj; subst hj; simp [Addr.add]
  | j + 1, hj => simp [ints] at hj

/-- Box b holds a slice of the numbers l. -/
def Want (w : World) (B b : Nat) (l : List Int) : Prop := ∃ a c, Boxed w b 33 (.slice a l.length c) ∧ w.ownsRow B 3 1 (.slice a l.length c) l.length (ints l) ∧ l.length ≤ c
theorem Want.chg {ts : List TypeId} {B B' b : Nat} {w w' : World} {l : List Int} (h : Want w B b l) (k : Chg ts B' w w') (h1 : 3 ∉ ts) (h2 : 33 ∉ ts) : Want w' B b l := by
  obtain ⟨a, c, b1, r, hc⟩ := h
  exact ⟨a, c, k.box b1 h2, k.row r h1, hc⟩

theorem hits_len (es : List En) (ys : List Ft) : (hits es ys).length ≤ es.length := by
  unfold hits
  rw [List.length_map]
  exact List.length_filter_le _ _

/-- What lies behind 'want = append(want, x)'. -/
theorem want_end {w7 w8 : World} {B b g8 c8 : Nat} {l : List Int} {v7 : Value} {x : Int} {W : World} {o : Obj} (hB : B ≤ w7.heap.size) (hBb : B ≤ b) (bw : Boxed w7 b 33 v7) (rw7 : w7.ownsRow B 3 1 v7 l.length (ints l))
    (hW : W = w7.alloc o) (own8 : w8.ownsRow B 3 1 (.slice (some ⟨g8, 0, none⟩) (l.length + 1) c8) (l.length + 1) (ints l ++ ints [x])) (g : W.grownBy w8 v7.ownBlock) :
    Boxed w8 b 33 v7 ∧ Chg [3, 33] B w7 (w8.setCell ⟨b, 0, none⟩ (.slice (some ⟨g8, 0, none⟩) (l.length + 1) c8)) ∧ Want (w8.setCell ⟨b, 0, none⟩ (.slice (some ⟨g8, 0, none⟩) (l.length + 1) c8)) B b (l ++ [x]) := by
  subst hW
  have c78 : Chg [3] B w7 w8 := (Chg.of_aft ((Aft.refl w7).alloc o) hB).trans (Chg.of_grown g (by simp; omega) (fun r hr => ⟨(row_type (rw7.alloc o) r hr).1, fun cur t h => by rw [(row_type (rw7.alloc o) r hr).2 cur t h]; exact List.mem_singleton.2 rfl⟩))
  have b8 := c78.box bw (by decide)
  have c89 : Chg [33] B w8 (w8.setCell ⟨b, 0, none⟩ (.slice (some ⟨g8, 0, none⟩) (l.length + 1) c8)) := Chg.set b8 _ hBb (by have := c78.size; omega)
  refine ⟨b8, (c78.mono (by simp)).trans (c89.mono (by simp)), some ⟨g8, 0, none⟩, c8, ?_, ?_, ?_⟩
  · rw [List.length_append]
    exact b8.set _
  · rw [List.length_append, ints_append]
    exact c89.row own8 (by decide)
  · rw [List.length_append]
    rcases own8.2 with ⟨e, _⟩ | ⟨g', cap, cur, e, _, _, hle, _⟩
    · cases e
    · cases e; exact hle

theorem name_act {P : Program} {c : Code} {Q : Exit → Act → World → Prop} {a : Act} {w : World} (h : ∀ a0, a0 = a → c.wp P Q a0 w) : c.wp P Q a w := h a rfl
theorem pre_at {q l : List Int} {y : Int} (h : q ++ [y] <+: l) : l[q.length]? = some y := by
  obtain ⟨s, rfl⟩ := h
  simp
theorem want_cells {w W : World} {B L c : Nat} {a : Option Addr} {l : List Int} (h : w.ownsRow B 3 1 (.slice a L c) L (ints l)) (hA : Aft w W) {j : Nat} {y : Int} (hj : l[j]? = some y) : ∃ g, a = some ⟨g, 0, none⟩ ∧ g < w.heap.size ∧ W.cell? ⟨g, j, none⟩ = some (.int .i64 y) := by
  have hlt := (List.getElem?_eq_some_iff.1 hj).1
  have hL : l.length = L := by have := h.1; simp [ints] at this; omega
  rcases h.2 with ⟨e, h0⟩ | ⟨g, cap, cur, e, _, hg, _⟩
  · omega
  · cases e
    refine ⟨g, rfl, (Array.getElem?_eq_some_iff.1 hg).1, hA.cell ?_⟩
    rw [h.cellAt _ (by omega)]
    simp [ints, hj]

/-- What holds between two rounds of the loop over the matches. -/
def Inv (w : World) (Nb Wb : Nat) (wa : Option Addr) (wc : Nat) (H : List Int) (pre : List Int) (W : World) : Prop :=
  Boxed W Nb 3 (.int .i64 (pre.length : Nat)) ∧ Boxed W Wb 33 (.slice wa H.length wc) ∧ (∀ j y, H[j]? = some y → ∃ g, wa = some ⟨g, 0, none⟩ ∧ g < Nb ∧ W.cell? ⟨g, j, none⟩ = some (.int .i64 y)) ∧ Boxed W w.heap.size 4 (.bool false) ∧ Aft w W
def InvX (H : List Int) (pre : List Int) : Prop := ∃ (q : List Int) (y : Int), pre = q ++ [y] ∧ H[q.length]? ≠ some y
theorem Inv.own {w w7 : World} {Nb Wb : Nat} {wa : Option Addr} {wc : Nat} {H : List Int} (h1 : Nb < w7.heap.size) (h2 : Wb < w7.heap.size) (h3 : w.heap.size < w7.heap.size) : OwnFrom w7.heap.size (Inv w Nb Wb wa wc H) :=
  fun s X Y row hs hg hr => ⟨hs.1.kept hg (fun e => by have := (hr _ e.symm).1; omega), hs.2.1.kept hg (fun e => by have := (hr _ e.symm).1; omega), (fun j y hj => by
      obtain ⟨g, e1, e2, e3⟩ := hs.2.2.1 j y hj
      exact ⟨g, e1, e2, cell_kept e3 hg (fun r e => (hr r e).2)⟩), hs.2.2.2.1.kept hg (fun e => by have := (hr _ e.symm).1; omega), hs.2.2.2.2.grown hg (fun k e => by have := (hr _ e).1; omega)⟩
theorem Inv.next {w W : World} {Nb Wb p : Nat} {wa : Option Addr} {wc : Nat} {H pre : List Int} {y : Int} (h : Inv w Nb Wb wa wc H pre W) (hp : pre.length = p) (h1 : w.heap.size ≤ Nb) (h2 : w.heap.size ≠ Nb) (h3 : Wb ≠ Nb) :
    KeepsOthers W (W.setCell ⟨Nb, 0, none⟩ (.int .i64 ((p : Int) + 1))) ∧ Chg [3] w.heap.size W (W.setCell ⟨Nb, 0, none⟩ (.int .i64 ((p : Int) + 1))) ∧ Inv w Nb Wb wa wc H (pre ++ [y]) (W.setCell ⟨Nb, 0, none⟩ (.int .i64 ((p : Int) + 1))) := by
  obtain ⟨bN, bW, hc, bR, hA⟩ := h
  refine ⟨KeepsOthers.setCell _ _ _, Chg.set bN _ h1 hA.size, ?_, bW.other h3 _, ?_, bR.other h2 _, hA.setCell (p := ⟨Nb, 0, none⟩) h1 _⟩
  · have hv : Value.int .i64 ((p : Int) + 1) = .int .i64 ((pre ++ [y]).length : Nat) := by rw [List.length_append, hp]; rfl
    rw [← hv]
    exact bN.set _
  · intro j z hj
    obtain ⟨g, e1, e2, e3⟩ := hc j z hj
    exact ⟨g, e1, e2, (World.cell?_setCell_far W ⟨Nb, 0, none⟩ ⟨g, j, none⟩ _ (by simp; omega)).trans e3⟩

theorem ret0 {w W : World} {tmps : Array Value} (b : Boxed W w.heap.size 4 (.bool true)) (hA : Aft w W) (h4 : tmps[4]? = some (.pointer (some ⟨w.heap.size, 0, none⟩))) :
    bodyPostM Fence.wide 3 Try.prog Try.f4 (BoolPost w true) .ret { tmps := tmps, defers := [] } W := by
  have e0 := b.cell
  refine ⟨.bool true, ?_, rfl, hA⟩
  simp [results, Try.f4, go_sem, e0, h4]
theorem ret1 {w W : World} {D : Nat} {tmps : Array Value} (b : Boxed W w.heap.size 4 (.bool true)) (hA : Aft w W) (hD : w.heap.size < D) (hK : W.heap[D]? = some (.deferred (some []))) (h4 : tmps[4]? = some (.pointer (some ⟨w.heap.size, 0, none⟩))) :
    bodyPostM Fence.wide 3 Try.prog Try.f4 (BoolPost w true) .ret { tmps := tmps, defers := [{ target := .collected D, args := #[] }] } W := by
  refine ⟨by simp, .inl ⟨_, _, rfl, run_takeDeferred hK, ?_⟩⟩
  have hg := grownBy_putObj' W D (.deferred none)
  have e0 := (b.kept hg (fun e => by cases e; omega)).cell
  refine ⟨.bool true, ?_, rfl, hA.grown hg (fun k e => by cases e; omega)⟩
  simp [results, Try.f4, go_sem, e0, h4]

set_option maxRecDepth 100000 in
set_option maxHeartbeats 6400000 in
theorem walk0 (A : Option Addr) (N cE : Nat) (ess : List (List Ft)) (Bq : Option Addr) (m d : Nat) (ys : List Ft) (w : World) (hE : Sls w A N cE ess) (hq : Sl w Bq m d ys) (hqb : m * 32 ≤ 140737488355328) :
    Calls Try.prog 4 #[.slice A N cE, .slice Bq m d] w (BoolPost w true) := by
  have hEc := hE.cmax
  have hEl := hE.le
  have HEL := Lib.hid hE.len
  obtain ⟨i0, hi, hz0, hz1, hz2⟩ := info_parts Try.infoI
  have bR0 := Boxed.new w 4 (.bool false)
  have A0 : Aft w (w.alloc (.cells #[.bool false] 4)) := (Aft.refl w).alloc _
  refine (callsIn_wide (n := 3)).1 ?_
  refine callsIn_of_wp_marks Try.func4 rfl trivial ?_ rfl
  simp only [Try.ntmps4, List.size_toArray, List.length_cons, List.length_nil, Nat.reduceAdd, Nat.reduceSub, Array.replicate_succ, Array.replicate_zero, List.push_toArray, List.append_toArray, List.nil_append, List.cons_append]
  refine wpIn_wide.2 ?_
  go_wp2_with fail
  refine (awake_any _).mono ?_
  rintro e w1 ⟨rfl, A1⟩
  have bR1 := (Chg.of_aft (ts := []) A1 (Nat.zero_le _)).box bR0 (by simp)
  have A01 := A0.trans A1
  have kR := bR1.cell
  have fR := bR1.frozen
  by_cases hN : 60 < N
  · have hN' : (60 : Int) < (N : Int) := by omega
    go_wp2
    exact ret0 (bR1.set _) (A01.setCell (p := ⟨w.heap.size, 0, none⟩) (Nat.le_refl _) _) rfl
  have hN60 : N ≤ 60 := by omega
  have hN' : ¬ (60 : Int) < (N : Int) := by omega
  have hrec := record_any Bq m d ys w1 (hq.aft A01)
  cases hry : ascB ys
  · rw [hry] at hrec
    have HRC := Lib.hid hrec
    clear hrec
    go_wp2_with fail
    refine HRC.out.mono ?_
    rintro e w2 ⟨rfl, q2⟩
    have A2 := quiet_aft q2
    have bR2 := (Chg.of_aft (ts := []) A2 (Nat.zero_le _)).box bR1 (by simp)
    have kR2 := bR2.cell
    have fR2 := bR2.frozen
    go_wp2
    exact ret0 (bR2.set _) ((A01.trans A2).setCell (p := ⟨w.heap.size, 0, none⟩) (Nat.le_refl _) _) rfl
  rw [hry] at hrec
  have HRC := Lib.hid hrec
  clear hrec
  go_wp2_with fail
  refine HRC.out.mono ?_
  rintro e w2 ⟨rfl, q2⟩
  have A2 := quiet_aft q2
  have bR2 := (Chg.of_aft (ts := []) A2 (Nat.zero_le _)).box bR1 (by simp)
  have A02 := A01.trans A2
  clear q2 kR fR bR1 HRC
  go_wp2_with fail
  refine (new_any w2).mono ?_
  rintro e w3 ⟨rfl, hw3⟩
  have tb3 : Tb w3 w.heap.size w2.heap.size [] := by rw [hw3]; exact Tb.new w2 _
  have A23 : Aft w2 w3 := by rw [hw3]; exact (Aft.refl _).alloc _
  have A03 := A02.trans A23
  have bR3 := (Chg.of_aft (ts := []) A23 (Nat.zero_le _)).box bR2 (by simp)
  have hT : w.heap.size ≤ w2.heap.size := A02.size
  obtain ⟨T, hTe⟩ : ∃ T, T = w2.heap.size := ⟨_, rfl⟩
  rw [← hTe] at tb3 hT
  rw [← hTe]
  have hT3 : T < w3.heap.size := by rw [hTe, hw3]; simp
  clear hw3 hTe
  have bW := Boxed.new w3 33 (.slice none 0 0)
  have AL : Aft w3 (w3.alloc (.cells #[.slice none 0 0] 33)) := (Aft.refl _).alloc _
  have tb4 := tb3.chg (ts := []) (Chg.of_aft AL (Nat.zero_le _)) (by simp) (by simp) (by simp)
  have bR4 := (Chg.of_aft (ts := []) AL (Nat.zero_le _)).box bR3 (by simp)
  have A04 := A03.trans AL
  have hW4 : Want (w3.alloc (.cells #[.slice none 0 0] 33)) w.heap.size w3.heap.size [] := ⟨none, 0, bW, World.ownsRow_nil _ _ _ _, Nat.le_refl _⟩
  obtain ⟨Wb, hWb⟩ : ∃ Wb, Wb = w3.heap.size := ⟨_, rfl⟩
  rw [← hWb] at hW4
  have H4 := Lib.hid (And.intro tb4 (And.intro bR4 (And.intro A04 hW4)))
  have HWB := Lib.hid hWb
  have hWle : w.heap.size ≤ Wb := by have := A03.size; omega
  have hWT : T ≠ Wb := by omega
  have hWR : w.heap.size ≠ Wb := by have := A23.size; have := A03.size; have := (Boxed.lt bR3); omega
  clear tb4 bR4 hW4 bW AL tb3 bR3 bR2
  clear hWb
  go_wp2
  rw [← HWB.out]
  go_loopw [7] (fun i wr => ∃ k : Nat, k ≤ N ∧ i = .int .i64 (k : Nat) ∧ Tb wr w.heap.size T ((ents ess).take k) ∧ Want wr w.heap.size Wb (hits ((ents ess).take k) ys) ∧ Boxed wr w.heap.size 4 (.bool false) ∧ Aft w wr) (fun i _ => N - (intOf i).toNat)
  case atStart => exact ⟨0, Nat.zero_le _, rfl, H4.out.1, H4.out.2.2.2, H4.out.2.1, H4.out.2.2.1⟩
  case round =>
    clear H4
    obtain ⟨k, hk, rfl, tb, wt, bR, haf⟩ := hrel
    have kR := bR.cell
    have fR := bR.frozen
    by_cases hlt : k < N
    · obtain ⟨b, off, Bi, mi, di, fs, rfl, hfs, c0, s0, hmi⟩ := hE.at_ hlt
      have c1 := haf.cell c0
      have HFS := Lib.hid (ents_at hfs)
      have hrec := record_any Bi mi di fs wr (s0.aft haf)
      clear hfs
      cases hra : ascB fs
      · rw [hra] at hrec
        have HRC := Lib.hid hrec
        clear hrec
        go_wp2_with fail
        refine HRC.out.mono ?_
        rintro e w5 ⟨rfl, q5⟩
        have A5 := quiet_aft q5
        have bR5 := (Chg.of_aft (ts := []) A5 (Nat.zero_le _)).box bR (by simp)
        have kR5 := bR5.cell
        have fR5 := bR5.frozen
        go_wp2
        exact ret0 (bR5.set _) ((haf.trans A5).setCell (p := ⟨w.heap.size, 0, none⟩) (Nat.le_refl _) _) rfl
      rw [hra] at hrec
      have HRC := Lib.hid hrec
      clear hrec kR fR
      go_wp2_with fail
      refine HRC.out.mono ?_
      rintro e w5 ⟨rfl, q5⟩
      have A5 := quiet_aft q5
      have haf5 := haf.trans A5
      have k5 := Chg.of_aft (ts := []) (B := 0) A5 (Nat.zero_le _)
      have tb5 := tb.chg k5 (by simp) (by simp) (by simp)
      have wt5 := wt.chg k5 (by simp) (by simp)
      have bR5 := k5.box bR (by simp)
      have c5 := A5.cell c1
      clear q5 HRC tb wt bR k5 c1
      have hadd := add_any Bi mi di fs ((k : Int) + 1) w.heap.size T ((ents ess).take k) w5 (s0.aft haf5) hmi tb5 (by rw [List.length_take]; omega) haf5.size hT
      have hsnoc : (ents ess).take k ++ [(fs, (k : Int) + 1)] = (ents ess).take (k + 1) := by rw [List.take_add_one, HFS.out]; rfl
      rw [hsnoc] at hadd
      have HAD := Lib.hid hadd
      clear hadd tb5 hsnoc
      go_wp2_with fail
      refine HAD.out.mono ?_
      rintro e w6 ⟨rfl, tb6, ch6⟩
      have haf6 := ch6.aft0 haf5 (Nat.le_refl _)
      have wt6 := wt5.chg ch6 (by decide) (by decide)
      have bR6 := ch6.box bR5 (by decide)
      have c6 := haf6.cell c0
      clear HAD wt5 bR5 c5 ch6
      have hsub := refSubs_any Bi mi di fs Bq m d ys w6 (s0.aft haf6) (hq.aft haf6)
      rw [rsubs_eq ((ascB_iff fs).1 hra) ((ascB_iff ys).1 hry)] at hsub
      cases hsb : subs fs ys
      · rw [hsb] at hsub
        have HSB := Lib.hid hsub
        clear hsub
        go_wp2_with fail
        refine HSB.out.mono ?_
        rintro e w7 ⟨rfl, A7⟩
        have k7 := Chg.of_aft (ts := []) (B := 0) A7 (Nat.zero_le _)
        go_wp2
        go_roundw
        case rel => exact ⟨k + 1, by omega, by go_num, tb6.chg k7 (by simp) (by simp) (by simp), by rw [hits_no HFS.out hsb]; exact wt6.chg k7 (by simp) (by simp), k7.box bR6 (by simp), haf6.trans A7⟩
        case measure => simp [intOf]; omega
      · rw [hsb] at hsub
        have HSB := Lib.hid hsub
        clear hsub
        go_wp2_with fail
        refine HSB.out.mono ?_
        rintro e w7 ⟨rfl, A7⟩
        have k7 := Chg.of_aft (ts := []) (B := 0) A7 (Nat.zero_le _)
        have hl60 : (hits ((ents ess).take k) ys).length ≤ 60 := by have := hits_len ((ents ess).take k) ys; rw [List.length_take] at this; omega
        have HHY := Lib.hid (hits_yes HFS.out hsb)
        have wt7 := wt6.chg k7 (by simp) (by simp)
        generalize hits ((ents ess).take k) ys = l at *
        obtain ⟨a7, c7, bw7, rw7, hc7⟩ := wt7
        have tb7 := tb6.chg k7 (by simp) (by simp) (by simp)
        have bR7 := k7.box bR6 (by simp)
        have haf7 := haf6.trans A7
        have kw := bw7.cell
        clear HSB wt6 k7 tb6 bR6 c6 haf6
        go_wp2_with (at_builtin; refine wpList_append_own _ rfl _ _ 33 rfl w.heap.size 3 i0 _ 1 8 Try.underlying33 hi hz0 hz1 hz2 rfl (by decide) _ _ _ rfl (rw7.alloc _) ⟨w7.heap.size, 0, none⟩ 1 1 (ints [(k : Int) + 1]) rfl rfl (one_int _ _) (ints_one _) (by unfold maxLen; omega) (by omega) (by have := haf7.size; simp; omega) ?_; intro v8 w8 own8 grow8 _; obtain ⟨g8, c8, rfl⟩ := ownsRow_succ own8; obtain ⟨bw8, k79, wt9⟩ := want_end (haf7.size) hWle bw7 rw7 rfl own8 grow8; have kw8 := bw8.cell; have fw8 := bw8.frozen)
        go_roundw
        case rel => exact ⟨k + 1, by omega, by go_num, tb7.chg k79 (by decide) (by decide) (by decide), by rw [HHY.out]; exact wt9, k79.box bR7 (by decide), k79.aft0 haf7 (Nat.le_refl _)⟩
        case measure => simp [intOf]; omega
    · obtain rfl : k = N := by omega
      have htk : (ents ess).take k = ents ess := List.take_of_length_le (by rw [ents_len, HEL.out]; exact Nat.le_refl _)
      rw [htk] at tb wt
      have hel : (ents ess).length = k := by rw [ents_len]; exact HEL.out
      have HEN := Lib.hid hel
      have hfind := find_any w.heap.size T (ents ess) Bq m d ys wr tb (hq.aft haf) (by rw [hel]; omega)
      have hln := fun W (h : Tb W w.heap.size T (ents ess)) => len_any W w.heap.size T (ents ess) h
      rw [hel] at hln
      have hh60 : (hits (ents ess) ys).length ≤ 60 := by have := hits_len (ents ess) ys; omega
      obtain ⟨v, bT, hrow⟩ := tb
      obtain ⟨va, vc, rfl, hvc⟩ := hrow.len
      obtain ⟨wa, wc, bw, wrow, hwc⟩ := wt
      have HF := Lib.hid hfind
      have HL := Lib.hid hln
      clear hfind hln htk kR fR hel
      cases hh : hits (ents ess) ys with
      | nil =>
        rw [hh] at bw wrow hwc HF
        have HH := Lib.hid hh
        have HH60 := Lib.hid hh60
        rw [HH.out] at HH60
        clear hh hh60
        go_wp2_with fail
        refine HF.out.mono ?_
        rintro e w5 ⟨rfl, A5⟩
        have k5 := Chg.of_aft (ts := []) (B := 0) A5 (Nat.zero_le _)
        have bT5 := k5.box bT (by simp)
        have hrow5 := hrow.chg k5 (by simp) (by simp)
        have bw5 := k5.box bw (by simp)
        have wrow5 := k5.row wrow (by simp)
        have bR5 := k5.box bR (by simp)
        have haf5 := haf.trans A5
        have kw5 := bw5.cell
        clear HF bT hrow bw wrow bR
        go_wp2_with fail
        refine (HL.out _ ⟨_, bT5, hrow5⟩).mono ?_
        rintro e w6 ⟨rfl, rfl⟩
        have bN := Boxed.new w5 3 (.int .i64 0)
        have AL : Aft w5 (w5.alloc (.cells #[.int .i64 0] 3)) := (Aft.refl _).alloc _
        have kL := Chg.of_aft (ts := []) (B := 0) AL (Nat.zero_le _)
        have hmt := matches_any T va vc (ents ess) Bq m d ys _ (kL.box bT5 (by simp)) (hq.aft (haf5.trans AL)) hqb
        have HMT := Lib.hid hmt
        clear HL hmt
        go_wp2_with fail
        refine HMT.out.mono ?_
        rintro e w7 ⟨Be, qa, qc, rfl, bE, bQ, cl, A7⟩
        have A57 := AL.trans A7
        have k7 := Chg.of_aft (ts := []) (B := 0) A7 (Nat.zero_le _)
        have k57 := Chg.of_aft (ts := []) (B := 0) A57 (Nat.zero_le _)
        have haf7 := haf5.trans A57
        have bN7 := k7.box bN (by simp)
        have bw7 := k57.box bw5 (by simp)
        have bR7 := k57.box bR5 (by simp)
        have hrow7 := hrow5.chg k57 (by simp) (by simp)
        have hcw : ∀ j y, ([] : List Int)[j]? = some y → ∃ g, wa = some ⟨g, 0, none⟩ ∧ g < w5.heap.size ∧ w7.cell? ⟨g, j, none⟩ = some (.int .i64 y) := fun j y hj => want_cells wrow5 A57 hj
        obtain ⟨Nb, hNb⟩ : ∃ Nb, Nb = w5.heap.size := ⟨_, rfl⟩
        have HNB := Lib.hid hNb
        rw [← hNb] at bN7 hcw
        have hNle : w.heap.size ≤ Nb := by have := haf5.size; omega
        have hNR : w.heap.size ≠ Nb := by have := bR5.lt; omega
        have hNW : Wb ≠ Nb := by have := bw5.lt; omega
        have hqs : ∀ W', Chg [3] w.heap.size w7 W' → Sl W' qa ys.length qc ys := fun W' k => by
          obtain ⟨a, c, e, h⟩ := (cl.chg k (by decide)).sl
          cases e
          exact h
        have HCW := Lib.hid hcw
        have HQS := Lib.hid hqs
        have H7 := haf7.size
        clear HMT bN bT5 hrow5 bw5 wrow5 bR5 kL k7 k57 hcw hqs hNb AL A7 kw5
        go_wp2
        rw [← HNB.out]
        refine name_act ?_
        intro a0 ha0
        refine (wpIn_wide (n := 3)).1 ?_
        refine wpIn_rangeFunc_ownG rfl (by omega) (gf := 41) (lb := #[.pointer (some ⟨Be, 0, none⟩), .pointer (some ⟨Be + 1, 0, none⟩)]) (by rw [ha0]; rfl) trivial (enters_of Try.func41 (by kernel_rfl) rfl)
          (iter_stops 2 (by omega) Be (Be + 1) w.heap.size w.heap.size _ (ents ess) qa ys.length qc ys w7 bE hrow7 bQ HQS.out H7 (by rw [HEN.out]; omega))
          (fun h k => h.trans k) (Chg.keepsK H7) (Below.refl _ _) (fun _ => rfl)
          (Inv w Nb Wb wa wc ([] : List Int)) (fun _ pre _ => InvX ([] : List Int) pre) (Inv.own bN7.lt bw7.lt bR7.lt)
          (fun _ _ _ _ _ hs _ _ => hs)
          ⟨bN7, bw7, HCW.out, bR7, haf7⟩
          (fun x => { tmps := (a0.tmps.setIfInBounds 93 (.int .i64 x)).setIfInBounds 11 (.int .i64 x), defers := [] }) ?assign ?body ?done ?stop
        case assign =>
          intro l' x' W K hK
          subst ha0
          simp only [List.setIfInBounds_toArray, List.set_cons_zero, List.set_cons_succ] at hK
          gi_wp2
          exact hK
        case body =>
          rintro l' pre y W _ hlen
          rw [HH.out] at hlen
          exact absurd hlen (by simp)
        case done =>
          rintro D zs W hD hzs ⟨bN, bW, _, bR, hA⟩ hK
          have hl : zs.length = ([] : List Int).length := by rw [hzs, HH.out]
          rw [hl] at bN
          have kN := bN.cell
          have kW := bW.cell
          have kR := bR.cell
          have fR := bR.frozen
          have hK2 := (KeepsOthers.setCell W ⟨w.heap.size, 0, none⟩ (.bool true)).same D _ hK rfl
          clear hl hzs
          subst ha0
          go_wp2
          exact ret1 (bR.set _) (hA.setCell (p := ⟨w.heap.size, 0, none⟩) (Nat.le_refl _) _) (by have := bR7.lt; omega) hK2 rfl
        case stop =>
          rintro D c pre W hD hpre ⟨q, y, rfl, hne⟩ hK
          rw [HH.out] at hpre
          exact absurd (pre_at hpre) hne
      | cons x l =>
        rw [hh] at bw wrow hwc HF
        have HH := Lib.hid hh
        have HH60 := Lib.hid hh60
        rw [HH.out] at HH60
        clear hh hh60
        go_wp2_with fail
        refine HF.out.mono ?_
        rintro e w5 ⟨rfl, A5⟩
        have k5 := Chg.of_aft (ts := []) (B := 0) A5 (Nat.zero_le _)
        have bT5 := k5.box bT (by simp)
        have hrow5 := hrow.chg k5 (by simp) (by simp)
        have bw5 := k5.box bw (by simp)
        have wrow5 := k5.row wrow (by simp)
        have bR5 := k5.box bR (by simp)
        have haf5 := haf.trans A5
        have kw5 := bw5.cell
        obtain ⟨g0, hwa, hg0, cx⟩ := want_cells wrow5 (Aft.refl w5) (show (x :: l)[0]? = some x from rfl)
        subst hwa
        clear HF bT hrow bw wrow bR
        go_wp2_with fail
        refine (HL.out _ ⟨_, bT5, hrow5⟩).mono ?_
        rintro e w6 ⟨rfl, rfl⟩
        have bN := Boxed.new w5 3 (.int .i64 0)
        have AL : Aft w5 (w5.alloc (.cells #[.int .i64 0] 3)) := (Aft.refl _).alloc _
        have kL := Chg.of_aft (ts := []) (B := 0) AL (Nat.zero_le _)
        have hmt := matches_any T va vc (ents ess) Bq m d ys _ (kL.box bT5 (by simp)) (hq.aft (haf5.trans AL)) hqb
        have HMT := Lib.hid hmt
        clear HL hmt
        go_wp2_with fail
        refine HMT.out.mono ?_
        rintro e w7 ⟨Be, qa, qc, rfl, bE, bQ, cl, A7⟩
        have A57 := AL.trans A7
        have k7 := Chg.of_aft (ts := []) (B := 0) A7 (Nat.zero_le _)
        have k57 := Chg.of_aft (ts := []) (B := 0) A57 (Nat.zero_le _)
        have haf7 := haf5.trans A57
        have bN7 := k7.box bN (by simp)
        have bw7 := k57.box bw5 (by simp)
        have bR7 := k57.box bR5 (by simp)
        have hrow7 := hrow5.chg k57 (by simp) (by simp)
        have hcw : ∀ j y, (x :: l)[j]? = some y → ∃ g, (some ⟨g0, 0, none⟩ : Option Addr) = some ⟨g, 0, none⟩ ∧ g < w5.heap.size ∧ w7.cell? ⟨g, j, none⟩ = some (.int .i64 y) := fun j y hj => want_cells wrow5 A57 hj
        obtain ⟨Nb, hNb⟩ : ∃ Nb, Nb = w5.heap.size := ⟨_, rfl⟩
        have HNB := Lib.hid hNb
        rw [← hNb] at bN7 hcw
        have hNle : w.heap.size ≤ Nb := by have := haf5.size; omega
        have hNR : w.heap.size ≠ Nb := by have := bR5.lt; omega
        have hNW : Wb ≠ Nb := by have := bw5.lt; omega
        have hqs : ∀ W', Chg [3] w.heap.size w7 W' → Sl W' qa ys.length qc ys := fun W' k => by
          obtain ⟨a, c, e, h⟩ := (cl.chg k (by decide)).sl
          cases e
          exact h
        have HCW := Lib.hid hcw
        have HQS := Lib.hid hqs
        have H7 := haf7.size
        clear HMT bN bT5 hrow5 bw5 wrow5 bR5 kL k7 k57 hcw hqs hNb AL A7 kw5 cx
        go_wp2
        rw [← HNB.out]
        refine name_act ?_
        intro a0 ha0
        refine (wpIn_wide (n := 3)).1 ?_
        refine wpIn_rangeFunc_ownG rfl (by omega) (gf := 41) (lb := #[.pointer (some ⟨Be, 0, none⟩), .pointer (some ⟨Be + 1, 0, none⟩)]) (by rw [ha0]; rfl) trivial (enters_of Try.func41 (by kernel_rfl) rfl)
          (iter_stops 2 (by omega) Be (Be + 1) w.heap.size w.heap.size _ (ents ess) qa ys.length qc ys w7 bE hrow7 bQ HQS.out H7 (by rw [HEN.out]; omega))
          (fun h k => h.trans k) (Chg.keepsK H7) (Below.refl _ _) (fun _ => rfl)
          (Inv w Nb Wb (some ⟨g0, 0, none⟩ : Option Addr) wc (x :: l)) (fun _ pre _ => InvX (x :: l) pre) (Inv.own bN7.lt bw7.lt bR7.lt)
          (fun _ _ _ _ _ hs _ _ => hs)
          ⟨bN7, bw7, HCW.out, bR7, haf7⟩
          (fun x => { tmps := (a0.tmps.setIfInBounds 93 (.int .i64 x)).setIfInBounds 11 (.int .i64 x), defers := [] }) ?assign ?body ?done ?stop
        case assign =>
          intro l' x' W K hK
          subst ha0
          simp only [List.setIfInBounds_toArray, List.set_cons_zero, List.set_cons_succ] at hK
          gi_wp2
          exact hK
        case body =>
          rintro l' pre y W hInv hlen
          obtain ⟨bN, bW, hcw, bR, hA⟩ := id hInv
          rw [HH.out] at hlen
          obtain ⟨z, hz⟩ : ∃ z, (x :: l)[pre.length]? = some z := ⟨_, List.getElem?_eq_getElem hlen⟩
          obtain ⟨g, e, hgN, cz⟩ := hcw _ z hz
          cases e
          have HCW2 := Lib.hid hcw
          have HZ := Lib.hid hz
          have kN := bN.cell
          have fN := bN.frozen
          have kW := bW.cell
          have kR := bR.cell
          have fR := bR.frozen
          have hplt : (pre.length : Int) < ((x :: l).length : Int) := by omega
          have hp60 : pre.length ≤ 60 := by have := HH60.out; omega
          have hpd : ¬ (((x :: l).length : Int) ≤ (pre.length : Int)) := by omega
          clear hcw hz hlen
          generalize hp : pre.length = p at *
          have HIN := Lib.hid (Inv.next (y := y) hInv hp hNle hNR hNW)
          have HP := Lib.hid hp
          clear hp hInv
          subst ha0
          simp only [List.setIfInBounds_toArray, List.set_cons_zero, List.set_cons_succ]
          by_cases hyz : z = y
          · subst hyz
            gi_wp2
            exact ⟨HIN.out.1.from _, HIN.out.2.1, HIN.out.2.2⟩
          · have hyz' : (z == y) = false := by simpa using hyz
            have hyz2 : (z != y) = true := by simp [bne, hyz']
            gi_wp2
            exact ⟨(KeepsOthers.setCell _ _ _).from _, pre, y, rfl, by rw [HP.out, HZ.out]; intro e; exact hyz (Option.some.inj e)⟩
        case done =>
          rintro D zs W hD hzs ⟨bN, bW, _, bR, hA⟩ hK
          have hl : zs.length = (x :: l).length := by rw [hzs, HH.out]
          rw [hl] at bN
          have kN := bN.cell
          have kW := bW.cell
          have kR := bR.cell
          have fR := bR.frozen
          have hK2 := (KeepsOthers.setCell W ⟨w.heap.size, 0, none⟩ (.bool true)).same D _ hK rfl
          clear hl hzs
          subst ha0
          go_wp2
          exact ret1 (bR.set _) (hA.setCell (p := ⟨w.heap.size, 0, none⟩) (Nat.le_refl _) _) (by have := bR7.lt; omega) hK2 rfl
        case stop =>
          rintro D c pre W hD hpre ⟨q, y, rfl, hne⟩ hK
          rw [HH.out] at hpre
          exact absurd (pre_at hpre) hne

theorem walk (A : Option Addr) (N cE : Nat) (ess : List (List Ft)) (Bq : Option Addr) (m d : Nat) (ys : List Ft) (w : World) (hE : Sls w A N cE ess) (hq : Sl w Bq m d ys) (_ : Sized ys) (hb : d * 32 ≤ reachBytes) :
    Calls Try.prog 4 #[.slice A N cE, .slice Bq m d] w (BoolPost w true) := walk0 A N cE ess Bq m d ys w hE hq (by have := hq.le; unfold reachBytes at hb; omega)

theorem own : ownKnob Try.prog.godebug = none := by kernel_rfl
theorem laidOut : laidOutB Try.prog = true := by kernel_rfl
theorem bytesF : Try.prog.bytesOf 44 = 32 := by kernel_rfl
theorem weights_all {H : Type} {P : Program} {e : TypeId} {d : DataW H} : ∀ {l : List (DataW H)}, d ∈ l → ∀ {x : Nat}, x ∈ d.weights P e → x ∈ DataW.weightsAll P e l
  | [], h, _, _ => by cases h
  | y :: l, h, x, hx => by
    simp only [DataW.weightsAll]
    rcases List.mem_cons.1 h with rfl | h
    · exact List.mem_append_left _ hx
    · exact List.mem_append_right _ (weights_all h hx)

/-- How an argument that is a slice of slices of features is opened. -/
theorem sls_of {H : Type} {enc : TypeId × Value → H} {W : World} {a : Option Addr} {len cap : Nat} {d : DataW H} {p : List MemPlace}
    (h : DataW.Trod enc Try.prog W 0 (fun _ => true) true 24 (.slice a len cap) d p) (hw : ∀ x ∈ d.weights Try.prog 24, x ≤ reachBytes) : ∃ ess, Sls W a len cap ess := by
  obtain ⟨fuel, hf⟩ := h
  rcases open_slice1 Try.underlying24 (by kernel_rfl) hf with ⟨hcs, hx⟩ | ⟨x, l, c, m, n, V, D, Pl, hcs, _, hl, hm, hmm, hx, hcell⟩
  · simp [Value.cells] at hcs
    obtain ⟨rfl, rfl, rfl⟩ := hcs
    exact ⟨[], rfl, Nat.le_refl _, by omega, fun i fs h => by simp at h⟩
  · simp [Value.cells] at hcs
    obtain ⟨rfl, rfl, rfl⟩ := hcs
    simp only [if_true] at hmm
    obtain rfl : m = cap := hmm
    simp only [Prod.mk.injEq] at hx
    have each : ∀ i, i < len → ∃ q : Option Addr × Nat × Nat × List Ft, V i = .slice q.1 q.2.1 q.2.2.1 ∧ Sl W q.1 q.2.1 q.2.2.1 q.2.2.2 ∧ q.2.1 * 32 ≤ 140737488355328 := by
      intro i hi
      obtain ⟨_, hd⟩ := hcell i (by omega)
      have hwi : ∀ x ∈ (D i).weights Try.prog 29, x ≤ reachBytes := fun x hxx => hw x (by
        rw [hx.1]
        simp only [DataW.weights, Try.underlying24]
        refine List.mem_cons_of_mem _ (List.mem_append_left _ ?_)
        exact weights_all (List.mem_map.2 ⟨i, List.mem_range.2 hi, rfl⟩) hxx)
      have key : ∃ a' l' c', V i = .slice a' l' c' := by
        rcases open_slice_pairs Try.underlying29 Try.underlying44 (by kernel_rfl) rfl rfl (by kernel_rfl) (by kernel_rfl) hd with ⟨e, _⟩ | ⟨x', l', c', _, _, _, _, _, _, _, _, e, _⟩
        · exact ⟨_, _, _, (List.cons.inj e).1⟩
        · exact ⟨_, _, _, (List.cons.inj e).1⟩
      obtain ⟨a', l', c', hV⟩ := key
      rw [hV] at hd
      obtain ⟨fs, s1, _, s3⟩ := feats_of (W := W) (a := a') (len := l') (cap := c') ⟨n, hd⟩ (Nat.le_refl _) (fun el sp e => by
        have := hwi ((el.length + sp.length) * Try.prog.bytesOf 44) (by rw [e]; simp [DataW.weights, Try.underlying29])
        rwa [bytesF] at this)
      exact ⟨(a', l', c', fs), hV, s1, by have := s1.le; unfold reachBytes at s3; show l' * 32 ≤ _; omega⟩
    obtain ⟨q, hq⟩ := choose_lt each
    refine ⟨(List.range len).map fun i => (q i).2.2.2, by simp, hl, by unfold maxLen at hm; omega, ?_⟩
    intro i fs hi
    have hlt : i < len := by have := (List.getElem?_eq_some_iff.1 hi).1; simpa using this
    simp [hlt] at hi
    subst hi
    obtain ⟨b, off, spot⟩ := x
    obtain ⟨k0, _⟩ := hcell 0 (by omega)
    have hspot : spot = none := by simpa [Addr.add] using World.cell?_spot k0
    subst hspot
    obtain ⟨e1, e2, e3⟩ := hq i hlt
    refine ⟨b, off, (q i).1, (q i).2.1, (q i).2.2.1, rfl, ?_, e2, e3⟩
    have := (hcell i (by omega)).1
    rw [Addr.add_lit] at this
    rw [this, e1]

set_option maxRecDepth 100000 in
theorem contract (H : Type) (enc : TypeId × Value → H) (W : World) (base : Nat) (args : Array Value) (ds gs : List (DataW H)) (before : List MemPlace)
    (hval : ∀ (j : Nat) t v, Try.f4.params[j]? = some t → args[j]? = some v → Value.okWide Try.prog W .any base t v)
    (hW : DataW.Whole enc Try.prog Try.f4.params.toList Rows.featureTablesSpec.vars false W args.toList ds gs before) (hsz0 : (DataW.weightsEach Try.prog (Try.f4.params.toList ++ Rows.featureTablesSpec.plain.varTypes Try.prog) (ds ++ gs)).all (· ≤ reachBytes) = true) :
    Calls Try.prog 4 args W fun e W' => ∃ v, e = .returned v ∧ Rows.featureTablesSpec.post enc Try.prog Try.f4 false true false false W args v W' := by
  have hW' := hW
  obtain ⟨p, q, hA0, hV, rfl, hfz, hnd⟩ := hW
  have hA : DataW.TrodAll enc Try.prog W 0 (fun _ => true) true Try.f4.params.toList args.toList ds p := hA0
  have hsz := hsz0
  rw [Try.params4] at hA hval hsz
  obtain ⟨v0, vs0, d0, ds0, p0, q0, hargs, rfl, rfl, h0, r0⟩ := trodAll_cons hA
  obtain ⟨v1, vs1, d1, ds1, p1, q1, rfl, rfl, rfl, h1, r1⟩ := trodAll_cons r0
  obtain ⟨rfl, rfl, rfl⟩ := trodAll_nil r1
  obtain rfl : args = #[v0, v1] := by cases args; simp_all
  obtain ⟨rfl, rfl⟩ := trodVars_none hV
  obtain ⟨a0, len0, cap0, rfl⟩ := okWide_slice Try.underlying24 (hval 0 24 v0 rfl rfl)
  have lt0 : ∀ x ∈ p0, x.block < W.heap.size := by obtain ⟨m, hm⟩ := h0; exact DataW.trod_lt m _ _ _ hm
  obtain ⟨xs0, s0⟩ := sls_of h0 (fun x hx => by simpa using List.all_eq_true.1 hsz x (DataW.weights_mem_each (j := 0) (t := 24) rfl rfl x hx))
  obtain ⟨a1, len1, cap1, rfl⟩ := okWide_slice Try.underlying29 (hval 1 29 v1 rfl rfl)
  have lt1 : ∀ x ∈ p1, x.block < W.heap.size := by obtain ⟨m, hm⟩ := h1; exact DataW.trod_lt m _ _ _ hm
  obtain ⟨xs1, s1, z1, b1⟩ := feats_of h1 (Nat.le_refl _) (fun el sp e => by have := sized_slice hsz (j := 1) (t := 29) (e := 44) rfl (by rw [e]; rfl) Try.underlying29; rwa [bytesF] at this)
  clear hA0
  refine (walk a0 len0 cap0 xs0 a1 len1 cap1 xs1 W s0 s1 z1 b1).mono fun e W' ⟨he, bel⟩ => ?_
  subst he
  exact ⟨_, rfl, _, _, _, [], _, [], hW', trodAll_mk1 (shut_bool Try.underlying4 _), (trodAll_cons_mk (Below.trod laidOut (by kernel_rfl) (of_decide_eq_true (by kernel_rfl)) h0 bel lt0) (trodAll_cons_mk (Below.trod laidOut (by kernel_rfl) (of_decide_eq_true (by kernel_rfl)) h1 bel lt1) trodAll_mk0)), rfl, Below.frame bel _, fun h => by cases h⟩

set_option maxRecDepth 100000 in
theorem lifted (os : Os) (started : os.Started) (H : Type) (enc : TypeId × Value → H) :
    ReturnsInHanded {} Try.checked os 4 .any (Rows.featureTablesSpec.pre6 enc Try.prog Try.f4 Rows.featureTablesRow.domain false) (Rows.featureTablesSpec.post enc Try.prog Try.f4 false true false false) := by
  refine returnsInHanded_of_change_sized (C := Try.checked) own started (by kernel_rfl) Try.func4
    (ChangeSpec.witness6 (enc := enc) (C := Try.checked) false ⟨#[], #[.slice none 0 0, .slice none 0 0], []⟩ 8 (by kernel_rfl) (by kernel_rfl) (by kernel_rfl) (by kernel_rfl)) ?_
  intro W base args ds gs before hval hW _ hsz _
  exact contract H enc W base args ds gs before hval hW hsz

theorem proved : Rows.FeatureTablesSaid :=
  OpenClaim.holds_of_wide 4 Try.f4 rfl rfl rfl rfl rfl rfl rfl ⟨rfl, rfl, rfl, rfl, rfl⟩ rfl rfl rfl rfl rfl (by kernel_rfl) Try.func4 (by kernel_rfl)
    (of_decide_eq_true (by kernel_rfl)) (by unfold Func.isWrapper; rw [if_neg (of_decide_eq_false (by kernel_rfl))]; exact ⟨rfl, rfl⟩)
    (fun os started H enc _ => lifted os started H enc)
#print axioms proved
end Go.Proofs.Ytgdmpkccibfbpaa.lawTables
