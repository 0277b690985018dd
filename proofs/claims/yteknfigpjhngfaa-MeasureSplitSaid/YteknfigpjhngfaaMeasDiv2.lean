/-
  divide: the parts of an amount. Conditions: the slice holds units of sizes from 1 on; the amount is from 0 to 2^62.
-/
import Derived.Test.YteknfigpjhngfaaMeasDiv
namespace Go.Proofs.Yteknfigpjhngfaa
open Go.RowKit Go.Shelf
open MeasPlain

attribute [local go_sem] Oper.semAt_some

/-! Plain: the parts as a fold over the units from the last one down. -/
/-- A unit with its index. -/
abbrev Ux (us : List Un) := { p : Nat × Un // us[p.1]? = some p.2 ∧ 1 ≤ p.2.2 }
def stepD (us : List Un) (a : List Int × Int) (x : Ux us) : List Int × Int := (a.1.set x.1.1 (a.2 / x.1.2.2), a.2 % x.1.2.2)
def runD (us : List Un) (n : Int) (pre : List (Ux us)) : List Int × Int := pre.foldl (stepD us) (List.replicate us.length 0, n)
theorem runD_snoc (us : List Un) (n : Int) (pre : List (Ux us)) (x : Ux us) : runD us n (pre ++ [x]) = stepD us (runD us n pre) x := by simp [runD]
theorem runD_len (us : List Un) (n : Int) (pre : List (Ux us)) : (runD us n pre).1.length = us.length := by
  unfold runD
  suffices h : ∀ (a : List Int × Int), a.1.length = us.length → (pre.foldl (stepD us) a).1.length = us.length from h _ (by simp)
  induction pre with
  | nil => exact fun a h => h
  | cons x pre ih => exact fun a h => ih _ (by simp [stepD, h])
theorem runD_range (us : List Un) {n : Int} (hn : 0 ≤ n) (pre : List (Ux us)) : 0 ≤ (runD us n pre).2 ∧ (runD us n pre).2 ≤ n := by
  unfold runD
  suffices h : ∀ (a : List Int × Int), 0 ≤ a.2 ∧ a.2 ≤ n → 0 ≤ (pre.foldl (stepD us) a).2 ∧ (pre.foldl (stepD us) a).2 ≤ n from h _ ⟨hn, Int.le_refl _⟩
  induction pre with
  | nil => exact fun a h => h
  | cons x pre ih =>
    refine fun a h => ih _ ?_
    have h1 := x.2.2
    have h2 := Int.emod_nonneg a.2 (show x.1.2.2 ≠ 0 by omega)
    have h3 := emod_le' (s := x.1.2.2) a.2 h.1
    show 0 ≤ a.2 % x.1.2.2 ∧ a.2 % x.1.2.2 ≤ n
    omega
/-- All units from an index on, the last one first. -/
def fromTop (us : List Un) (h : ∀ u ∈ us, 1 ≤ u.2) : (k : Nat) → List (Ux us)
  | 0 => []
  | k + 1 => if hk : k < us.length then fromTop us h k ++ [⟨(k, us[k]), List.getElem?_eq_getElem hk, h _ (List.getElem_mem hk)⟩] else fromTop us h k
def allDown (us : List Un) (h : ∀ u ∈ us, 1 ≤ u.2) (k : Nat) : List (Ux us) := (fromTop us h us.length).reverse.take (us.length - k)
theorem fromTop_len (us : List Un) (h : ∀ u ∈ us, 1 ≤ u.2) : ∀ k, k ≤ us.length → (fromTop us h k).length = k
  | 0, _ => rfl
  | k + 1, hk => by rw [fromTop, dif_pos (by omega), List.length_append, fromTop_len us h k (by omega)]; rfl
theorem fromTop_get (us : List Un) (h : ∀ u ∈ us, 1 ≤ u.2) : ∀ k, k ≤ us.length → ∀ i (_ : i < k) (hi' : i < us.length), (fromTop us h k)[i]? = some ⟨(i, us[i]), List.getElem?_eq_getElem hi', h _ (List.getElem_mem hi')⟩
  | 0, _, i, hi, _ => by omega
  | k + 1, hk, i, hi, hi' => by
    rw [fromTop, dif_pos (by omega)]
    by_cases e : i = k
    · subst e
      rw [List.getElem?_append_right (by rw [fromTop_len us h i (by omega)]; exact Nat.le_refl _), fromTop_len us h i (by omega), Nat.sub_self]
      rfl
    · rw [List.getElem?_append_left (by rw [fromTop_len us h k (by omega)]; omega)]
      exact fromTop_get us h k (by omega) i (by omega) hi'
theorem allDown_none (us : List Un) (h : ∀ u ∈ us, 1 ≤ u.2) : allDown us h us.length = [] := by unfold allDown; simp
theorem allDown_len (us : List Un) (h : ∀ u ∈ us, 1 ≤ u.2) (k : Nat) : (allDown us h k).length = us.length - k := by
  unfold allDown
  rw [List.length_take, List.length_reverse, fromTop_len us h _ (Nat.le_refl _)]
  omega
theorem allDown_step (us : List Un) (h : ∀ u ∈ us, 1 ≤ u.2) {k : Nat} (hk : k < us.length) : allDown us h k = allDown us h (k + 1) ++ [⟨(k, us[k]), List.getElem?_eq_getElem hk, h _ (List.getElem_mem hk)⟩] := by
  unfold allDown
  rw [show us.length - k = (us.length - (k + 1)) + 1 by omega]
  refine take_next ?_
  have hl := fromTop_len us h _ (Nat.le_refl us.length)
  rw [List.getElem?_reverse (by rw [hl]; omega), hl, show us.length - 1 - (us.length - (k + 1)) = k by omega]
  exact fromTop_get us h _ (Nat.le_refl _) k hk hk
theorem runD_all (us : List Un) (h : ∀ u ∈ us, 1 ≤ u.2) (n : Int) : ∀ j k, j + k = us.length → runD us n (allDown us h k) = (List.replicate k 0 ++ parts ((szs us).drop k) n, (divs ((szs us).drop k) n).2)
  | 0, k, hk => by
    obtain rfl : k = us.length := by omega
    rw [allDown_none, List.drop_of_length_le (by rw [szs_len]; exact Nat.le_refl _)]
    simp [runD, parts, divs]
  | j + 1, k, hk => by
    have hlt : k < us.length := by omega
    have hz : (szs us)[k]? = some (us[k]).2 := szs_get (List.getElem?_eq_getElem hlt)
    rw [allDown_step us h hlt, runD_snoc, runD_all us h n j (k + 1) (by omega), drop_of_get hz]
    unfold stepD
    refine Prod.ext ?_ rfl
    show (List.replicate (k + 1) 0 ++ parts ((szs us).drop (k + 1)) n).set k _ = _
    rw [List.replicate_succ', List.append_assoc, List.set_append_right _ _ (by simp), List.length_replicate, Nat.sub_self]
    rfl
theorem runD_end (us : List Un) (h : ∀ u ∈ us, 1 ≤ u.2) (n : Int) : (runD us n (allDown us h 0)).1 = parts (szs us) n := by
  rw [runD_all us h n us.length 0 (by omega)]
  simp

/-! The closure take. -/
theorem enterTake (args : Array Value) (w : World) : (callFunc 38 args).run Try.prog w = .ok (.enter 38 args) w := by go_simp
set_option maxHeartbeats 800000 in
theorem take_any (u : Un) (Bn : Nat) (r : Int) (w : World) (h : w.cell? ⟨Bn, 0, none⟩ = some (.int .i64 r)) (hf : w.frozen? ⟨Bn, 0, none⟩ = false) (hr : 0 ≤ r) (hr1 : r ≤ 4611686018427387904) (hs : 1 ≤ u.2) :
    Calls Try.prog 38 #[uV u, .pointer (some ⟨Bn, 0, none⟩)] w (fun e w' => e = .returned (.int .i64 (r / u.2)) ∧ w' = (w.alloc (.cells #[.string u.1, .int .i64 u.2] 44)).setCell ⟨Bn, 0, none⟩ (.int .i64 (r % u.2))) := by
  obtain ⟨nm, s⟩ := u
  dsimp only at hs ⊢
  have AL : Aft w (w.alloc (.cells #[.string nm, .int .i64 s] 44)) := (Aft.refl w).alloc _
  obtain ⟨t0, t1⟩ := two_cells w (.string nm) (.int .i64 s) 44
  have h' := AL.cell h
  have hf' : (w.alloc (.cells #[.string nm, .int .i64 s] 44)).frozen? ⟨Bn, 0, none⟩ = false := (Below.frozen AL (World.block_lt_of_cell? w _ h)).trans hf
  have hne : ¬ s = 0 := by omega
  go_enter Try.func38, Try.ntmps38
  go_wp2
  go_ret
  exact ⟨rfl, rfl⟩

/-! The iterator. -/
/-- What a round must keep: what lay before, and the box of the slice. -/
def Keep (n₀ Bs : Nat) (W W' : World) : Prop := Below n₀ W W' ∧ ∀ v, W.cell? ⟨Bs, 0, none⟩ = some v → W'.cell? ⟨Bs, 0, none⟩ = some v
theorem Keep.refl (n₀ Bs : Nat) (W : World) : Keep n₀ Bs W W := ⟨Below.refl _ _, fun _ h => h⟩
theorem Keep.trans {n₀ Bs : Nat} {A B C : World} (h : Keep n₀ Bs A B) (k : Keep n₀ Bs B C) : Keep n₀ Bs A C := ⟨h.1.trans k.1, fun v hv => k.2 v (h.2 v hv)⟩
theorem keep_b {n₀ Bs : Nat} {w : World} (hn : n₀ ≤ w.heap.size) (W : World) (l : Nat) (o o' : Obj) (hl : w.heap.size ≤ l) (h : W.heap[l]? = some o) (hc : o.isCells = false) (hw : o.isWalk = false) : Keep n₀ Bs W (W.putObj l o') :=
  ⟨belowK_b hn W l o o' hl h hc hw, fun v hv => cell_kept hv (grownBy_putObj' W l o') (fun r e => by cases e; exact ⟨o, h, hc⟩)⟩
def encU {us : List Un} (x : Ux us) : Array Value := #[.int .i64 (x.1.1 : Int), .agg #[.string x.1.2.1, .int .i64 x.1.2.2]]

set_option maxRecDepth 100000 in
set_option maxHeartbeats 2000000 in
theorem back_in (n : Nat) (hn : 1 ≤ n) (l Bs n₀ : Nat) (A : Option Addr) (N c : Nat) (us : List Un) (hu : ∀ u ∈ us, 1 ≤ u.2) (J Jx : List (Ux us) → World → Prop) (W : World)
    (hY : ∀ pre x W1, J pre W1 → pre.length < us.length → YieldAt Fence.wide (n - 1) Try.prog l (encU x) W1 fun e W' =>
      (e = .returned (.bool true) ∧ J (pre ++ [x]) W' ∧ Keep n₀ Bs W1 W') ∨ (e = .returned (.bool false) ∧ Jx (pre ++ [x]) W'))
    (hBs : W.cell? ⟨Bs, 0, none⟩ = some (.slice A N c)) (ha : Ul W A N c us) (hA : 0 < N → ∀ a, A = some a → a.block < n₀) (h0 : J [] W) :
    CallsIn Fence.wide n Try.prog 46 #[.func (.yield l) #[] #[], .pointer (some ⟨Bs, 0, none⟩)] W fun e W' => (∃ v, e = .returned v) ∧
      ((∃ ys, ys = allDown us hu 0 ∧ J ys W') ∨ (∃ pre, True ∧ Jx pre W')) := by
  have hnm := ha.max
  have hnc := ha.le
  have hlw : us.length = N := ha.len
  have HL := Lib.hid hlw
  have HY := Lib.hid hY
  have HC := Lib.hid ha
  clear hY ha hlw
  refine callsIn_of_wp Try.func46 rfl trivial ?_ rfl
  simp only [Try.ntmps46, List.size_toArray, List.length_cons, List.length_nil, Nat.reduceAdd, Nat.reduceSub, Array.replicate_succ, Array.replicate_zero, List.push_toArray, List.append_toArray, List.nil_append, List.cons_append]
  gi_wp2
  gi_loopw [3] (fun i wr => ∃ (m : Nat) (z : Int) (pre : List (Ux us)), m ≤ N ∧ z = (m : Int) - 1 ∧ i = .int .i64 z ∧ pre = allDown us hu m ∧ J pre wr ∧ Keep n₀ Bs W wr) (fun i _ => (intOf i + 1).toNat)
  case atStart => exact ⟨N, _, [], Nat.le_refl _, rfl, rfl, by rw [← HL.out, allDown_none], h0, Keep.refl _ _ _⟩
  case round =>
    obtain ⟨m, z, pre, hm, hz, rfl, hp, hJs, hk⟩ := hrel
    have HP := Lib.hid hp
    clear hp
    cases m with
    | zero =>
      obtain rfl : z = -1 := by omega
      clear hz
      gi_wp2
      go_end0
      exact ⟨⟨_, rfl⟩, .inl ⟨pre, HP.out, hJs⟩⟩
    | succ k =>
      obtain rfl : z = (k : Int) := by omega
      clear hz
      have hlt : k < N := by omega
      have hlu : k < us.length := by rw [HL.out]; exact hlt
      obtain ⟨b, off, l1, rfl, hf, g1, g2⟩ := HC.out.at_ hlt
      have hb : b < n₀ := hA (by omega) _ rfl
      have c1 := (hk.1.cell (p := ⟨b, off + k * 2, none⟩) hb).trans g1
      have c2 := (hk.1.cell (p := ⟨b, off + k * 2 + 1, none⟩) hb).trans g2
      have c3 := hk.2 _ hBs
      obtain ⟨x, hx⟩ : ∃ x : Ux us, x = ⟨(k, us[k]), List.getElem?_eq_getElem hlu, hu _ (List.getElem_mem hlu)⟩ := ⟨_, rfl⟩
      have hx1 : x.1 = (k, l1) := by
        rw [hx]
        rw [List.getElem?_eq_getElem hlu] at hf
        simp only [Option.some.inj hf]
      have HX := Lib.hid (show allDown us hu k = pre ++ [x] by rw [HP.out, hx]; exact allDown_step us hu hlu)
      have hplen : pre.length < us.length := by rw [HP.out, allDown_len]; omega
      obtain ⟨fn, tmps, assign, body, hy, hR⟩ := HY.out pre x wr hJs hplen
      dsimp only [encU] at hy
      rw [hx1] at hy
      dsimp only at hy
      clear hf g1 g2 hx hx1 hplen
      gi_wp2
      refine hR.mono ?_
      rintro e W3 (⟨rfl, hJ3, hk3⟩ | ⟨rfl, hJx3⟩)
      · gi_wp2
        go_roundw
        case rel => exact ⟨k, _, pre ++ [x], by omega, rfl, rfl, HX.out.symm, hJ3, hk.trans hk3⟩
        case measure => simp [intOf]
      · gi_wp2
        refine bodyPost_ret (results_none rfl _ _ _) rfl ?_
        exact ⟨⟨_, rfl⟩, .inr ⟨_, trivial, hJx3⟩⟩

theorem backward_any (A : Option Addr) (n c : Nat) (w : World) :
    Calls Try.prog 39 #[.slice A n c] w (fun e w' => e = .returned (.func (.func 46) #[] #[.pointer (some ⟨w.heap.size, 0, none⟩)]) ∧ w' = w.alloc (.cells #[.slice A n c] 46)) := by
  go_enter Try.func39, Try.ntmps39
  go_wp2
  go_ret
  exact ⟨rfl, rfl⟩

theorem back_stops (n : Nat) (hn : 1 ≤ n) (Bs n₀ : Nat) (A : Option Addr) (N c : Nat) (us : List Un) (hu : ∀ u ∈ us, 1 ≤ u.2) (w : World) (hBs : w.cell? ⟨Bs, 0, none⟩ = some (.slice A N c)) (ha : Ul w A N c us) (hA : 0 < N → ∀ a, A = some a → a.block < n₀) :
    SeqStopsK Fence.wide n Try.prog 46 #[.pointer (some ⟨Bs, 0, none⟩)] (encU (us := us)) (Keep n₀ Bs) (fun ys => ys = allDown us hu 0) (fun _ => True) us.length w := fun l J Jx W hW _ _ hY h0 =>
  back_in n hn l Bs n₀ A N c us hu J Jx W hY (Aft.cell hW hBs) (ha.aft hW) hA h0

/-! divide. -/
/-- What lies where while divide runs: its world began at w. -/
structure DivS (w : World) (A : Option Addr) (n c : Nat) (r : Int) (d : List Int) (W : World) : Prop where
  aft : Aft w W
  nbox : W.cell? ⟨w.heap.size, 0, none⟩ = some (.int .i64 r)
  nfr : W.frozen? ⟨w.heap.size, 0, none⟩ = false
  tbox : W.cell? ⟨w.heap.size + 1, 0, none⟩ = some (.func (.func 38) #[] #[.pointer (some ⟨w.heap.size, 0, none⟩)])
  row : ∀ i z, d[i]? = some z → W.cell? ⟨w.heap.size + 1 + 1, i, none⟩ = some (.int .i64 z)
  rfr : ∀ i, i < d.length → W.frozen? ⟨w.heap.size + 1 + 1, i, none⟩ = false
  obox : W.cell? ⟨w.heap.size + 1 + 1 + 1, 0, none⟩ = some (.slice (some ⟨w.heap.size + 1 + 1, 0, none⟩) n n)
  sbox : W.cell? ⟨w.heap.size + 1 + 1 + 1 + 1, 0, none⟩ = some (.slice A n c)

theorem DivS.more {w : World} {A : Option Addr} {n c : Nat} {r : Int} {d : List Int} {W W' : World} (h : DivS w A n c r d W) (k : Aft W W') : DivS w A n c r d W' :=
  ⟨h.aft.trans k, k.cell h.nbox, (Below.frozen k (World.block_lt_of_cell? W _ h.nbox)).trans h.nfr, k.cell h.tbox, fun i z hi => k.cell (h.row i z hi),
    fun i hi => (Below.frozen k (World.block_lt_of_cell? W _ (h.row i _ (List.getElem?_eq_getElem hi)))).trans (h.rfr i hi), k.cell h.obox, k.cell h.sbox⟩
theorem addr_ne {b b' o o' : Nat} (h : b ≠ b' ∨ o ≠ o') : (⟨b, o, none⟩ : Addr) ≠ ⟨b', o', none⟩ := by
  intro e
  simp only [Addr.mk.injEq] at e
  omega
theorem DivS.setN {w : World} {A : Option Addr} {n c : Nat} {r : Int} {d : List Int} {W : World} (h : DivS w A n c r d W) (r' : Int) : DivS w A n c r' d (W.setCell ⟨w.heap.size, 0, none⟩ (.int .i64 r')) :=
  ⟨h.aft.setCell (Nat.le_refl _) _, World.cell?_setCell_same _ _ _ h.nbox, by rw [World.frozen?_setCell]; exact h.nfr,
    by rw [World.cell?_setCell_other _ _ _ _ (addr_ne (by omega))]; exact h.tbox,
    fun i z hi => by rw [World.cell?_setCell_other _ _ _ _ (addr_ne (by omega))]; exact h.row i z hi,
    fun i hi => by rw [World.frozen?_setCell]; exact h.rfr i hi,
    by rw [World.cell?_setCell_other _ _ _ _ (addr_ne (by omega))]; exact h.obox,
    by rw [World.cell?_setCell_other _ _ _ _ (addr_ne (by omega))]; exact h.sbox⟩
theorem DivS.setR {w : World} {A : Option Addr} {n c : Nat} {r : Int} {d : List Int} {W : World} (h : DivS w A n c r d W) {k : Nat} (hk : k < d.length) (z : Int) : DivS w A n c r (d.set k z) (W.setCell ⟨w.heap.size + 1 + 1, k, none⟩ (.int .i64 z)) :=
  ⟨h.aft.setCell (by show w.heap.size ≤ w.heap.size + 1 + 1; omega) _, by rw [World.cell?_setCell_other _ _ _ _ (addr_ne (by omega))]; exact h.nbox, by rw [World.frozen?_setCell]; exact h.nfr,
    by rw [World.cell?_setCell_other _ _ _ _ (addr_ne (by omega))]; exact h.tbox,
    fun i y hi => by
      by_cases e : i = k
      · subst e
        rw [List.getElem?_set_self hk] at hi
        cases hi
        exact World.cell?_setCell_same _ _ _ (h.row i _ (List.getElem?_eq_getElem hk))
      · rw [List.getElem?_set_ne (fun q => e q.symm)] at hi
        rw [World.cell?_setCell_other _ _ _ _ (addr_ne (by omega))]
        exact h.row i y hi,
    fun i hi => by rw [World.frozen?_setCell]; exact h.rfr i (by simpa using hi),
    by rw [World.cell?_setCell_other _ _ _ _ (addr_ne (by omega))]; exact h.obox,
    by rw [World.cell?_setCell_other _ _ _ _ (addr_ne (by omega))]; exact h.sbox⟩
theorem DivS.kept {w : World} {A : Option Addr} {n c : Nat} {r : Int} {d : List Int} {W W' : World} (h : DivS w A n c r d W) {row : Option Nat} (hg : W.grownBy W' row) (hb : ∀ q, row = some q → w.heap.size ≤ q) (hr : ∀ q, row = some q → ∃ o : Obj, W.heap[q]? = some o ∧ o.isCells = false) : DivS w A n c r d W' :=
  ⟨h.aft.grown hg hb, cell_kept h.nbox hg hr, (frozen_kept h.nbox hg hr).trans h.nfr, cell_kept h.tbox hg hr, fun i z hi => cell_kept (h.row i z hi) hg hr,
    fun i hi => (frozen_kept (h.row i _ (List.getElem?_eq_getElem hi)) hg hr).trans (h.rfr i hi), cell_kept h.obox hg hr, cell_kept h.sbox hg hr⟩

theorem Try.infoI : (Try.prog.info? 3).map (fun i => (i.zero, i.size, i.bytes)) = some (some (.int .i64 0), 1, 8) := by kernel_rfl
theorem made_ints (n : Nat) : madeCells (Value.int .i64 0).cells n = (List.replicate n (Value.int .i64 0)).toArray := by
  simp [madeCells, Value.cells]
  apply Array.ext
  · simp
  · intro i h1 h2
    simp [Nat.mod_one]

theorem div_start (A : Option Addr) (n c : Nat) (N : Int) (w : World) : DivS w A n c N (List.replicate n 0) (((((w.alloc (.cells #[.int .i64 N] 3)).alloc (.cells #[.func (.func 38) #[] #[.pointer (some ⟨w.heap.size, 0, none⟩)]] 52)).alloc (.cells (Array.replicate n (.int .i64 0)) 3)).alloc (.cells #[.slice (some ⟨w.heap.size + 1 + 1, 0, none⟩) n n] 45)).alloc (.cells #[.slice A n c] 46)) := by
  have s1 := World.size_alloc w (.cells #[.int .i64 N] 3)
  have c1 : (w.alloc (.cells #[.int .i64 N] 3)).cell? ⟨w.heap.size, 0, none⟩ = some (.int .i64 N) := by simp
  have f1 : (w.alloc (.cells #[.int .i64 N] 3)).frozen? ⟨w.heap.size, 0, none⟩ = false := by simp
  have A1 : Aft w (w.alloc (.cells #[.int .i64 N] 3)) := (Aft.refl w).alloc _
  generalize w.alloc (.cells #[.int .i64 N] 3) = w1 at *
  have s2 := World.size_alloc w1 (.cells #[.func (.func 38) #[] #[.pointer (some ⟨w.heap.size, 0, none⟩)]] 52)
  have c2 : (w1.alloc (.cells #[.func (.func 38) #[] #[.pointer (some ⟨w.heap.size, 0, none⟩)]] 52)).cell? ⟨w1.heap.size, 0, none⟩ = some (.func (.func 38) #[] #[.pointer (some ⟨w.heap.size, 0, none⟩)]) := by simp
  have A2 : Aft w1 (w1.alloc (.cells #[.func (.func 38) #[] #[.pointer (some ⟨w.heap.size, 0, none⟩)]] 52)) := (Aft.refl w1).alloc _
  generalize w1.alloc (.cells #[.func (.func 38) #[] #[.pointer (some ⟨w.heap.size, 0, none⟩)]] 52) = w2 at *
  have s3 := World.size_alloc w2 (.cells (Array.replicate n (.int .i64 0)) 3)
  have c3 : ∀ i, i < n → (w2.alloc (.cells (Array.replicate n (.int .i64 0)) 3)).cell? ⟨w2.heap.size, i, none⟩ = some (.int .i64 0) := by intro i hi; simp [hi]
  have f3 : ∀ i, i < n → (w2.alloc (.cells (Array.replicate n (.int .i64 0)) 3)).frozen? ⟨w2.heap.size, i, none⟩ = false := by intro i hi; simp
  have A3 : Aft w2 (w2.alloc (.cells (Array.replicate n (.int .i64 0)) 3)) := (Aft.refl w2).alloc _
  generalize w2.alloc (.cells (Array.replicate n (.int .i64 0)) 3) = w3 at *
  have s4 := World.size_alloc w3 (.cells #[.slice (some ⟨w.heap.size + 1 + 1, 0, none⟩) n n] 45)
  have c4 : (w3.alloc (.cells #[.slice (some ⟨w.heap.size + 1 + 1, 0, none⟩) n n] 45)).cell? ⟨w3.heap.size, 0, none⟩ = some (.slice (some ⟨w.heap.size + 1 + 1, 0, none⟩) n n) := by simp
  have A4 : Aft w3 (w3.alloc (.cells #[.slice (some ⟨w.heap.size + 1 + 1, 0, none⟩) n n] 45)) := (Aft.refl w3).alloc _
  generalize w3.alloc (.cells #[.slice (some ⟨w.heap.size + 1 + 1, 0, none⟩) n n] 45) = w4 at *
  have c5 : (w4.alloc (.cells #[.slice A n c] 46)).cell? ⟨w4.heap.size, 0, none⟩ = some (.slice A n c) := by simp
  have A5 : Aft w4 (w4.alloc (.cells #[.slice A n c] 46)) := (Aft.refl w4).alloc _
  generalize w4.alloc (.cells #[.slice A n c] 46) = w5 at *
  rw [s1] at s2 c2
  rw [s2] at s3 c3 f3
  rw [s3] at s4 c4
  rw [s4] at c5
  have A35 := A4.trans A5
  have A25 := A3.trans A35
  have A15 := A2.trans A25
  refine ⟨A1.trans A15, A15.cell c1, (Below.frozen A15 (by rw [s1]; show w.heap.size < _; omega)).trans f1, A25.cell c2, fun i z hi => ?_, fun i hi => ?_, A5.cell c4, c5⟩
  · have hlt : i < n := by have := (List.getElem?_eq_some_iff.1 hi).1; simpa using this
    rw [List.getElem?_replicate, if_pos hlt] at hi
    cases hi
    exact A35.cell (c3 i hlt)
  · have hlt : i < n := by simpa using hi
    exact (Below.frozen A35 (by rw [s3]; show w.heap.size + 1 + 1 < _; omega)).trans (f3 i hlt)

def DivPost (w : World) (l : List Int) (e : Ending) (w' : World) : Prop := ∃ (X : Option Addr) (nx cx : Nat), e = .returned (.slice X nx cx) ∧ Rw vI w' X nx cx l ∧ Aft w w'

theorem div_leaf {w : World} {A : Option Addr} {n c B k : Nat} {r r' : Int} {d : List Int} {W W2 : World} (hD : DivS w A n c r d W) (hD2 : DivS w A n c r' d W2) (hK : KeepsFrom B W.drew W2) (hB : Below w.heap.size W.drew W2) (hk : k < d.length) (z : Int) :
    KeepsFrom B W (W2.setCell ⟨w.heap.size + 1 + 1, k, none⟩ (.int .i64 z)) ∧ Keep w.heap.size (w.heap.size + 1 + 1 + 1 + 1) W (W2.setCell ⟨w.heap.size + 1 + 1, k, none⟩ (.int .i64 z)) ∧ DivS w A n c r' (d.set k z) (W2.setCell ⟨w.heap.size + 1 + 1, k, none⟩ (.int .i64 z)) := by
  have h3 := hD2.setR hk z
  have hK' : KeepsFrom B W W2 := ⟨hK.size, fun k o h1 h2 h3 => hK.same k o h1 h2 h3⟩
  have hB' : Below w.heap.size W W2 := Below.trans (Below.drew (Below.refl _ W)) hB
  refine ⟨hK'.trans ((KeepsOthers.setCell _ _ _).from _), ⟨hB'.setCell (by show w.heap.size ≤ w.heap.size + 1 + 1; omega) _, fun v hv => ?_⟩, h3⟩
  rw [hD.sbox] at hv
  cases hv
  exact h3.sbox
end Go.Proofs.Yteknfigpjhngfaa
