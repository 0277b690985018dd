/-
  New, Add, Len and Matches of a table of features. Conditions: the table holds its entries, fewer than 1000; the slice holds the features.
-/
import Derived.Test.YtgdmpkccibfbpaaFeatTab
namespace Go.Proofs.Ytgdmpkccibfbpaa
open Go.RowKit
open FeatPlain

section
variable {P : Program} {ops : Array Oper} {Q : Exit → Act → World → Prop} {md : Region.Mode} {S : World → Prop}
theorem two_ready {i j : Nat} {oi oj : Oper} {fuel : Nat} {listed : Array Bool} {a : Act} {w : World} (hi : ops.toList[i]? = some oi) (hj : ops.toList[j]? = some oj) (hr : Region.ready md ops listed = [i, j])
    (hwi : Region.wanted oi (yielded ops a.tmps) = true) (hwj : Region.wanted oj (yielded ops a.tmps) = true)
    (h1 : ∀ K' : Act → World → Prop, Shut (∀ a w, S w → (S w → wpAnyH P md ops Q S fuel (listed.setIfInBounds i true) a w) → K' a w) → Oper.wp P oi a w K' Q)
    (h2 : ∀ K' : Act → World → Prop, Shut (∀ a w, S w → (S w → wpAnyH P md ops Q S fuel (listed.setIfInBounds j true) a w) → K' a w) → Oper.wp P oj a w K' Q) : wpAnyH P md ops Q S (fuel + 1) listed a w :=
  wpAnyH_ready hr (by simp) (AllReadyH.cons (at_list hi) (fun K hK => by rw [if_pos hwi]; exact h1 K hK) (AllReadyH.cons (at_list hj) (fun K hK => by rw [if_pos hwj]; exact h2 K hK) AllReadyH.nil))
end

theorem Try.infoE : (Try.prog.info? 61).map (fun i => (i.zero, i.size, i.bytes)) = some (some (.agg #[.slice none 0 0, .int .i64 0]), 2, 32) := by kernel_rfl

theorem new_any (w : World) : Calls Try.prog 10 #[] w (fun e w' => e = .returned (.pointer (some ⟨w.heap.size, 0, none⟩)) ∧ w' = w.alloc (.cells #[.slice none 0 0] 58)) := by
  go_enter Try.func10, Try.ntmps10
  go_wp2
  go_ret
  exact ⟨rfl, rfl⟩
theorem Tb.new (w : World) (B : Nat) : Tb (w.alloc (.cells #[.slice none 0 0] 58)) B w.heap.size [] := ⟨_, Boxed.new w _ _, [], World.ownsRow_nil _ _ _ _, trivial⟩

theorem EnRow.len {w : World} {B : Nat} {v : Value} {es : List En} (h : EnRow w B v es) : ∃ a c, v = .slice a es.length c ∧ es.length ≤ c := by
  obtain ⟨vs, hr, _⟩ := h
  rcases hr.2 with ⟨rfl, h0⟩ | ⟨g, cap, cur, rfl, _, _, hle, _⟩
  · exact ⟨none, 0, by rw [h0], by omega⟩
  · exact ⟨_, _, rfl, hle⟩

theorem len_any (w : World) (B T : Nat) (es : List En) (h : Tb w B T es) : Calls Try.prog 14 #[.pointer (some ⟨T, 0, none⟩)] w (fun e w' => e = .returned (.int .i64 (es.length : Nat)) ∧ w = w') := by
  obtain ⟨v, hb, hr⟩ := h
  obtain ⟨a, c, rfl, hle⟩ := hr.len
  have hc := hb.cell
  go_enter Try.func14, Try.ntmps14
  go_wp2
  go_ret
  exact ⟨rfl, rfl⟩

/-- The cells that hold a new entry. -/
theorem en_cells (w : World) (cv : Value) (x : Int) : ∀ j u, [cv, Value.int .i64 x][j]? = some u → (w.alloc (.cells #[cv, .int .i64 x] 61)).cell? ((⟨w.heap.size, 0, none⟩ : Addr).add j) = some u := by
  intro j u hj
  match j, hj with
  | 0, hj => simp at hj; subst hj; simp [Addr.add]
  | 1, hj => simp at hj; subst hj; simp [Addr.add]
  | j + 2, hj => simp at hj

/-- What Add leaves behind. -/
def AddPost (w : World) (B T : Nat) (es : List En) (e : Ending) (w' : World) : Prop := e = .returned (.tuple #[]) ∧ Tb w' B T es ∧ Chg [61, 58] B w w'

theorem add_end {w w1 w2 w3 : World} {B T : Nat} {es : List En} {v v' cv : Value} {vs : List Value} {xs : List Ft} {x : Int} {o : Obj} (hB : B ≤ w.heap.size) (hBT : B ≤ T)
    (bx : Boxed w1 T 58 v) (A0 : Aft w w1) (hown : w1.ownsRow B 61 2 v es.length vs) (hen : Ents w1 vs es) (hcl : Cl w1 cv xs)
    (hw2 : w2 = w1.alloc o) (own2 : w3.ownsRow B 61 2 v' (es.length + 1) (vs ++ [cv, .int .i64 x])) (g2 : w2.grownBy w3 v.ownBlock) :
    Boxed w3 T 58 v ∧ Tb (w3.setCell ⟨T, 0, none⟩ v') B T (es ++ [(xs, x)]) ∧ Chg [61, 58] B w (w3.setCell ⟨T, 0, none⟩ v') := by
  subst hw2
  have c12 : Chg [61] B w1 w3 := (Chg.of_aft ((Aft.refl w1).alloc o) (Nat.le_trans hB A0.size)).trans (Chg.of_grown g2 (by simp; have := A0.size; omega) (fun r hr => ⟨(row_type (hown.alloc o) r hr).1, fun cur t h => by rw [(row_type (hown.alloc o) r hr).2 cur t h]; exact List.mem_singleton.2 rfl⟩))
  have b3 := c12.box bx (by decide)
  have c3 : Chg [58] B w3 (w3.setCell ⟨T, 0, none⟩ v') := Chg.set b3 v' hBT (by have := c12.size; have := A0.size; omega)
  refine ⟨b3, ⟨v', b3.set v', vs ++ [cv, .int .i64 x], ?_, ?_⟩, ?_⟩
  · rw [List.length_append]
    exact c3.row own2 (by decide)
  · exact Ents.snoc (e := (xs, x)) ((hcl.chg c12 (by decide)).chg c3 (by decide)) ((hen.chg c12 (by decide)).chg c3 (by decide))
  · exact (Chg.of_aft A0 hB).trans ((c12.mono (by simp)).trans (c3.mono (by simp)))

set_option maxRecDepth 100000 in
set_option maxHeartbeats 3200000 in
theorem add_any (A : Option Addr) (n c : Nat) (xs : List Ft) (x : Int) (B T : Nat) (es : List En) (w : World) (ha : Sl w A n c xs) (hb : n * 32 ≤ 140737488355328) (h : Tb w B T es) (hes : es.length ≤ 1000) (hB : B ≤ w.heap.size) (hBT : B ≤ T) :
    Calls Try.prog 11 #[.pointer (some ⟨T, 0, none⟩), .slice A n c, .int .i64 x] w (AddPost w B T (es ++ [(xs, x)])) := by
  obtain ⟨v, bx, vs, hown, hen⟩ := h
  obtain ⟨va, vc, rfl, hvc⟩ := EnRow.len ⟨vs, hown, hen⟩
  have hlen := Lib.hid ha.len
  obtain ⟨i0, hi, hz0, hz1, hz2⟩ := info_parts Try.infoE
  have AA : Aft w w.drew := (Aft.refl w).drew
  have bx0 : Boxed w.drew T 58 (.slice va es.length vc) := bx
  have hc0 := bx0.cell
  have hown0 : w.drew.ownsRow B 61 2 (.slice va es.length vc) es.length vs := hown
  have hen0 : Ents w.drew vs es := hen.chg (ts := []) (B := B) (Chg.of_aft AA hB) (by simp)
  go_enter Try.func11, Try.ntmps11
  go_wp2
  refine wp_region_held_drew (S := fun _ => True) (by kernel_rfl) trivial (fun hHeld => ?_)
  refine take_on (i := 0) (v := ?v1001) rfl (by kernel_rfl) (by kernel_rfl) (by kernel_rfl) (fun _ _ _ h => h) (by rfl) (by assumption) ?y1001 ?_
  case y1001 => (intro w hSw; (try dsimp only at hSw); go_simp; (try with_reducible rfl))
  try simp only [Act.put, List.setIfInBounds_toArray, List.set_cons_zero, List.set_cons_succ]
  refine take_on (i := 1) (v := ?v1002) rfl (by kernel_rfl) (by kernel_rfl) (by kernel_rfl) (fun _ _ _ h => h) (by rfl) (by assumption) ?y1002 ?_
  case y1002 => (intro w hSw; (try dsimp only at hSw); go_simp; (try with_reducible rfl))
  try simp only [Act.put, List.setIfInBounds_toArray, List.set_cons_zero, List.set_cons_succ]
  refine take_on (i := 2) (v := ?v1003) rfl (by kernel_rfl) (by kernel_rfl) (by kernel_rfl) (fun _ _ _ h => h) (by rfl) (by assumption) ?y1003 ?_
  case y1003 => (intro w hSw; (try dsimp only at hSw); go_simp; (try with_reducible rfl))
  try simp only [Act.put, List.setIfInBounds_toArray, List.set_cons_zero, List.set_cons_succ]
  refine take_on (i := 3) (v := ?v1004) rfl (by kernel_rfl) (by kernel_rfl) (by kernel_rfl) (fun _ _ _ h => h) (by rfl) (by assumption) ?y1004 ?_
  case y1004 => (intro w hSw; (try dsimp only at hSw); go_simp; (try with_reducible rfl))
  try simp only [Act.put, List.setIfInBounds_toArray, List.set_cons_zero, List.set_cons_succ]
  refine take_on (i := 5) (v := ?v1005) rfl (by kernel_rfl) (by kernel_rfl) (by kernel_rfl) (fun _ _ _ h => h) (by rfl) (by assumption) ?y1005 ?_
  case y1005 => (intro w hSw; (try dsimp only at hSw); go_simp; (try with_reducible rfl))
  try simp only [Act.put, List.setIfInBounds_toArray, List.set_cons_zero, List.set_cons_succ]
  refine take_on (i := 7) (v := ?v1006) rfl (by kernel_rfl) (by kernel_rfl) (by kernel_rfl) (fun _ _ _ h => h) (by rfl) (by assumption) ?y1006 ?_
  case y1006 => (intro w hSw; (try dsimp only at hSw); go_simp; (try with_reducible rfl))
  try simp only [Act.put, List.setIfInBounds_toArray, List.set_cons_zero, List.set_cons_succ]
  refine two_ready (i := 4) (j := 6) rfl rfl (by kernel_rfl) (by rfl) (by rfl) (fun K hK => ?_) (fun K hK => ?_)
  · go_simp
    refine hK.out _ _ trivial (fun hHeld => ?_)
    clear hK K
    try simp only [Act.put, List.setIfInBounds_toArray, List.set_cons_zero, List.set_cons_succ]
    refine one_ready (i := 6) rfl (by kernel_rfl) (by rfl) (fun K hK => ?_)
    go_simp
    refine (clone_any A n c xs _ (by exact ha.aft AA) hb).mono ?_
    rintro e w1 ⟨cv, rfl, cown, A1⟩
    have A01 : Aft w w1 := AA.trans A1
    have bx1 := (Chg.of_aft (ts := []) A01 hB).box bx (by simp)
    have hown1 := (Chg.of_aft (ts := []) A01 hB).row hown (by simp)
    have hen1 := hen.chg (Chg.of_aft (ts := []) A01 hB) (by simp)
    have hcl : Cl w1 cv xs := ⟨row_base (by rw [hlen.out]; exact cown) (Nat.zero_le _), by rw [hlen.out]; omega⟩
    obtain ⟨ca, cc, rfl, _⟩ := hcl.sl
    have hc1 := bx1.cell
    have hc2 := (bx1.alloc (.cells #[.slice ca xs.length cc, .int .i64 x] 61)).cell
    try go_simp
    refine hK.out _ _ (trivial) (fun hHeld => ?_)
    clear hK K
    try simp only [Act.put, List.setIfInBounds_toArray, List.set_cons_zero, List.set_cons_succ]
    refine take_on (i := 8) (v := ?v1007) rfl (by kernel_rfl) (by kernel_rfl) (by kernel_rfl) (fun _ _ _ h => h) (by rfl) (by assumption) ?y1007 ?_
    case y1007 => (intro w hSw; (try dsimp only at hSw); go_simp; (try with_reducible rfl))
    try simp only [Act.put, List.setIfInBounds_toArray, List.set_cons_zero, List.set_cons_succ]
    refine one_ready (i := 9) rfl (by kernel_rfl) (by rfl) (fun K hK => ?_)
    go_simp
    refine hK.out _ _ (trivial) (fun hHeld => ?_)
    clear hK K
    try simp only [Act.put, List.setIfInBounds_toArray, List.set_cons_zero, List.set_cons_succ]
    refine one_ready (i := 10) rfl (by kernel_rfl) (by rfl) (fun K hK => ?_)
    refine wp_append_own _ (.tmp 10) (.tmp 15) 56 rfl B 61 i0 _ 2 32 Try.underlying56 hi hz0 hz1 hz2 rfl (by decide) _ es.length vs rfl (hown1.alloc _) ⟨w1.heap.size, 0, none⟩ 1 1 [.slice ca xs.length cc, .int .i64 x] rfl rfl (en_cells _ _ _) (by simp [Value.oneCell']) (by unfold maxLen; omega) (by omega) (by have := A01.size; simp; omega) ?_
    intro v' w3 own3 grow3 _
    obtain ⟨b3, tb, ch⟩ := add_end (xs := xs) hB hBT bx1 A01 hown1 hen1 hcl rfl own3 grow3
    obtain ⟨g3, c3, rfl⟩ := ownsRow_succ own3
    have hc3 := b3.cell
    have hf3 := b3.frozen
    try go_simp
    refine hK.out _ _ (trivial) (fun hHeld => ?_)
    clear hK K
    try simp only [Act.put, List.setIfInBounds_toArray, List.set_cons_zero, List.set_cons_succ]
    refine take_on (i := 11) (v := ?v1008) rfl (by kernel_rfl) (by kernel_rfl) (by kernel_rfl) (fun _ _ _ h => h) (by rfl) (by assumption) ?y1008 ?_
    case y1008 => (intro w hSw; (try dsimp only at hSw); go_simp; (try with_reducible rfl))
    try simp only [Act.put, List.setIfInBounds_toArray, List.set_cons_zero, List.set_cons_succ]
    refine take_on (i := 12) (v := ?v1009) rfl (by kernel_rfl) (by kernel_rfl) (by kernel_rfl) (fun _ _ _ h => h) (by rfl) (by assumption) ?y1009 ?_
    case y1009 => (intro w hSw; (try dsimp only at hSw); go_simp; (try with_reducible rfl))
    try simp only [Act.put, List.setIfInBounds_toArray, List.set_cons_zero, List.set_cons_succ]
    refine one_ready (i := 13) rfl (by kernel_rfl) (by rfl) (fun K hK => ?_)
    go_simp
    refine hK.out _ _ (trivial) (fun hHeld => ?_)
    clear hK K
    try simp only [Act.put, List.setIfInBounds_toArray, List.set_cons_zero, List.set_cons_succ]
    refine wpAnyH_done (by kernel_rfl) ?_ _
    go_wp2
    go_end0
    exact ⟨rfl, tb, ch⟩
  · go_simp
    refine (clone_any A n c xs _ (by exact ha.aft AA) hb).mono ?_
    rintro e w1 ⟨cv, rfl, cown, A1⟩
    have A01 : Aft w w1 := AA.trans A1
    have bx1 := (Chg.of_aft (ts := []) A01 hB).box bx (by simp)
    have hown1 := (Chg.of_aft (ts := []) A01 hB).row hown (by simp)
    have hen1 := hen.chg (Chg.of_aft (ts := []) A01 hB) (by simp)
    have hcl : Cl w1 cv xs := ⟨row_base (by rw [hlen.out]; exact cown) (Nat.zero_le _), by rw [hlen.out]; omega⟩
    obtain ⟨ca, cc, rfl, _⟩ := hcl.sl
    have hc1 := bx1.cell
    have hc2 := (bx1.alloc (.cells #[.slice ca xs.length cc, .int .i64 x] 61)).cell
    try go_simp
    refine hK.out _ _ trivial (fun hHeld => ?_)
    clear hK K
    try simp only [Act.put, List.setIfInBounds_toArray, List.set_cons_zero, List.set_cons_succ]
    refine take_on (i := 8) (v := ?v1010) rfl (by kernel_rfl) (by kernel_rfl) (by kernel_rfl) (fun _ _ _ h => h) (by rfl) (by assumption) ?y1010 ?_
    case y1010 => (intro w hSw; (try dsimp only at hSw); go_simp; (try with_reducible rfl))
    try simp only [Act.put, List.setIfInBounds_toArray, List.set_cons_zero, List.set_cons_succ]
    refine two_ready (i := 4) (j := 9) rfl rfl (by kernel_rfl) (by rfl) (by rfl) (fun K hK => ?_) (fun K hK => ?_)
    · go_simp
      refine hK.out _ _ trivial (fun hHeld => ?_)
      clear hK K
      try simp only [Act.put, List.setIfInBounds_toArray, List.set_cons_zero, List.set_cons_succ]
      refine one_ready (i := 9) rfl (by kernel_rfl) (by rfl) (fun K hK => ?_)
      go_simp
      refine hK.out _ _ (trivial) (fun hHeld => ?_)
      clear hK K
      try simp only [Act.put, List.setIfInBounds_toArray, List.set_cons_zero, List.set_cons_succ]
      refine one_ready (i := 10) rfl (by kernel_rfl) (by rfl) (fun K hK => ?_)
      refine wp_append_own _ (.tmp 10) (.tmp 15) 56 rfl B 61 i0 _ 2 32 Try.underlying56 hi hz0 hz1 hz2 rfl (by decide) _ es.length vs rfl (hown1.alloc _) ⟨w1.heap.size, 0, none⟩ 1 1 [.slice ca xs.length cc, .int .i64 x] rfl rfl (en_cells _ _ _) (by simp [Value.oneCell']) (by unfold maxLen; omega) (by omega) (by have := A01.size; simp; omega) ?_
      intro v' w3 own3 grow3 _
      obtain ⟨b3, tb, ch⟩ := add_end (xs := xs) hB hBT bx1 A01 hown1 hen1 hcl rfl own3 grow3
      obtain ⟨g3, c3, rfl⟩ := ownsRow_succ own3
      have hc3 := b3.cell
      have hf3 := b3.frozen
      try go_simp
      refine hK.out _ _ (trivial) (fun hHeld => ?_)
      clear hK K
      try simp only [Act.put, List.setIfInBounds_toArray, List.set_cons_zero, List.set_cons_succ]
      refine take_on (i := 11) (v := ?v1011) rfl (by kernel_rfl) (by kernel_rfl) (by kernel_rfl) (fun _ _ _ h => h) (by rfl) (by assumption) ?y1011 ?_
      case y1011 => (intro w hSw; (try dsimp only at hSw); go_simp; (try with_reducible rfl))
      try simp only [Act.put, List.setIfInBounds_toArray, List.set_cons_zero, List.set_cons_succ]
      refine take_on (i := 12) (v := ?v1012) rfl (by kernel_rfl) (by kernel_rfl) (by kernel_rfl) (fun _ _ _ h => h) (by rfl) (by assumption) ?y1012 ?_
      case y1012 => (intro w hSw; (try dsimp only at hSw); go_simp; (try with_reducible rfl))
      try simp only [Act.put, List.setIfInBounds_toArray, List.set_cons_zero, List.set_cons_succ]
      refine one_ready (i := 13) rfl (by kernel_rfl) (by rfl) (fun K hK => ?_)
      go_simp
      refine hK.out _ _ (trivial) (fun hHeld => ?_)
      clear hK K
      try simp only [Act.put, List.setIfInBounds_toArray, List.set_cons_zero, List.set_cons_succ]
      refine wpAnyH_done (by kernel_rfl) ?_ _
      go_wp2
      go_end0
      exact ⟨rfl, tb, ch⟩
    · go_simp
      refine hK.out _ _ trivial (fun hHeld => ?_)
      clear hK K
      try simp only [Act.put, List.setIfInBounds_toArray, List.set_cons_zero, List.set_cons_succ]
      refine one_ready (i := 4) rfl (by kernel_rfl) (by rfl) (fun K hK => ?_)
      go_simp
      refine hK.out _ _ (trivial) (fun hHeld => ?_)
      clear hK K
      try simp only [Act.put, List.setIfInBounds_toArray, List.set_cons_zero, List.set_cons_succ]
      refine one_ready (i := 10) rfl (by kernel_rfl) (by rfl) (fun K hK => ?_)
      refine wp_append_own _ (.tmp 10) (.tmp 15) 56 rfl B 61 i0 _ 2 32 Try.underlying56 hi hz0 hz1 hz2 rfl (by decide) _ es.length vs rfl (hown1.alloc _) ⟨w1.heap.size, 0, none⟩ 1 1 [.slice ca xs.length cc, .int .i64 x] rfl rfl (en_cells _ _ _) (by simp [Value.oneCell']) (by unfold maxLen; omega) (by omega) (by have := A01.size; simp; omega) ?_
      intro v' w3 own3 grow3 _
      obtain ⟨b3, tb, ch⟩ := add_end (xs := xs) hB hBT bx1 A01 hown1 hen1 hcl rfl own3 grow3
      obtain ⟨g3, c3, rfl⟩ := ownsRow_succ own3
      have hc3 := b3.cell
      have hf3 := b3.frozen
      try go_simp
      refine hK.out _ _ (trivial) (fun hHeld => ?_)
      clear hK K
      try simp only [Act.put, List.setIfInBounds_toArray, List.set_cons_zero, List.set_cons_succ]
      refine take_on (i := 11) (v := ?v1013) rfl (by kernel_rfl) (by kernel_rfl) (by kernel_rfl) (fun _ _ _ h => h) (by rfl) (by assumption) ?y1013 ?_
      case y1013 => (intro w hSw; (try dsimp only at hSw); go_simp; (try with_reducible rfl))
      try simp only [Act.put, List.setIfInBounds_toArray, List.set_cons_zero, List.set_cons_succ]
      refine take_on (i := 12) (v := ?v1014) rfl (by kernel_rfl) (by kernel_rfl) (by kernel_rfl) (fun _ _ _ h => h) (by rfl) (by assumption) ?y1014 ?_
      case y1014 => (intro w hSw; (try dsimp only at hSw); go_simp; (try with_reducible rfl))
      try simp only [Act.put, List.setIfInBounds_toArray, List.set_cons_zero, List.set_cons_succ]
      refine one_ready (i := 13) rfl (by kernel_rfl) (by rfl) (fun K hK => ?_)
      go_simp
      refine hK.out _ _ (trivial) (fun hHeld => ?_)
      clear hK K
      try simp only [Act.put, List.setIfInBounds_toArray, List.set_cons_zero, List.set_cons_succ]
      refine wpAnyH_done (by kernel_rfl) ?_ _
      go_wp2
      go_end0
      exact ⟨rfl, tb, ch⟩
end Go.Proofs.Ytgdmpkccibfbpaa
