/-
  Put returns a record with one more feature, before the first one whose name does not come before its name. Condition: the slice holds the features, at most 2^40 of them.
-/
import Derived.Test.YtallloempmmgpaaFeatRefMeet
import Derived.Laws.AppendOwnNone
namespace Go.Proofs.Ytallloempmmgpaa
open Go.RowKit
open FeatPlain

/-- append onto a row of the call's own, from whatever slice. -/
theorem wpList_append_any {P : Program} {w : World} {ops : Array Oper} {rest : List Oper} {o : Oper} {a : Act} {Q : Exit → Act → World → Prop} (hgd : o.guard = none) (s x : Operand) (t : TypeId)
    (ho : o.op = .call { callee := .builtin .append, args := #[s, x], argTypes := #[t, t] })
    (base : Nat) (e : TypeId) (i : TypeInfo) (z : Value) (size bytes : Nat) (ht : P.underlying t = some (.slice e)) (hi : P.info? e = some i) (hz : i.zero = some z)
    (hsize : i.size = size) (hby : i.bytes = bytes) (hzs : z.cells.size = size) (hsz : 0 < size)
    (v : Value) (n : Nat) (xs : List Value) (hs : a.eval s = v) (hown : w.ownsRow base e size v n xs)
    (ao : Option Addr) (m c : Nat) (news : List Value) (hx : a.eval x = .slice ao m c) (hl : news.length = m * size) (hno : ao = none → m = 0 ∧ c = 0)
    (hnews : ∀ ad, ao = some ad → ∀ j u, news[j]? = some u → w.cell? (ad.add j) = some u) (h1 : ∀ u ∈ news, u.oneCell' = true)
    (h63 : n + m ≤ maxLen) (hbytes : (n + m) * bytes ≤ 140737488355328) (hbase : base ≤ w.heap.size)
    (h : ∀ v' w', w'.ownsRow base e size v' (n + m) (xs ++ news) → w.grownBy w' v.ownBlock → wpList P ops Q rest (a.put o.dst v') w') : wpList P ops Q (o :: rest) a w := by
  cases ao with
  | some ad => exact wpList_append_own w hgd s x t ho base e i z size bytes ht hi hz hsize hby hzs hsz v n xs hs hown ad m c news hx hl (hnews ad rfl) h1 h63 hbytes hbase fun v' w' a1 a2 _ => h v' w' a1 a2
  | none =>
    obtain ⟨rfl, rfl⟩ := hno rfl
    have hn : news = [] := List.length_eq_zero_iff.1 (by omega)
    subst hn
    exact wpList_append_own_none hgd s x t ho base e i size ht hi v n xs hs hown hx (h v w (by simpa using hown) (World.grownBy.refl _ _))

def put (f : Ft) : List Ft → List Ft
  | [] => [f]
  | g :: l => if lt g.1 f.1 then g :: put f l else f :: g :: l

theorem put_step {xs out : List Ft} {k : Nat} {f g : Ft} (h : put f xs = out ++ put f (xs.drop k)) (hg : xs[k]? = some g) (hl : lt g.1 f.1 = true) : put f xs = (out ++ [g]) ++ put f (xs.drop (k + 1)) := by
  rw [h, drop_of_get hg, put, if_pos hl]; simp
theorem put_stop {xs out : List Ft} {k : Nat} {f g : Ft} (h : put f xs = out ++ put f (xs.drop k)) (hg : xs[k]? = some g) (hl : lt g.1 f.1 = false) : put f xs = (out ++ [f]) ++ xs.drop k := by
  rw [h, drop_of_get hg, put, if_neg (by simp [hl])]; simp
theorem put_end {xs out : List Ft} {k : Nat} {f : Ft} (h : put f xs = out ++ put f (xs.drop k)) (hk : xs.length ≤ k) : put f xs = (out ++ [f]) ++ xs.drop k := by
  rw [h, List.drop_of_length_le hk]; simp [put]

theorem cut_cells {w : World} {b off n c k : Nat} {xs : List Ft} (ha : Sl w (some ⟨b, off, none⟩) n c xs) (hk : k ≤ n) :
    ∀ ad, (if c = k then some (⟨b, off, none⟩ : Addr) else some ⟨b, off + k * 2, none⟩) = some ad → ∀ j u, (flat (xs.drop k))[j]? = some u → w.cell? (ad.add j) = some u := by
  intro ad had j u hj
  have hlen := ha.len
  have hle := ha.le
  by_cases e : c = k
  · have : xs.drop k = [] := List.drop_of_length_le (by omega)
    rw [this] at hj
    simp [flat] at hj
  · rw [if_neg e] at had
    cases had
    have h1 := ha.flatCells _ rfl (k * 2 + j) u (by
      have : flat xs = flat (xs.take k) ++ flat (xs.drop k) := by rw [← flat_append, List.take_append_drop]
      rw [this, List.getElem?_append_right (by rw [flat_length, List.length_take]; omega), flat_length, List.length_take, show k * 2 + j - min k xs.length * 2 = j from by omega]
      exact hj)
    rw [Addr.add_lit] at h1 ⊢
    rwa [Nat.add_assoc]

theorem cell_grown {w1 w2 : World} {row : Option Nat} {base : Nat} (hg : w1.grownBy w2 row) (hr : ∀ r, row = some r → base ≤ r) {p : Addr} {v : Value} (hp : p.block < base) (hc : w1.cell? p = some v) : w2.cell? p = some v :=
  (World.cell?_of_block (w := w1) (hg.block p.block (World.block_lt_of_cell? w1 p hc) (fun e => by have := hr _ e.symm; omega))).trans hc

theorem put_fin {w w2 : World} {v : Value} {xs out : List Ft} {f : Ft} {k n : Nat} (h : put f xs = (out ++ [f]) ++ xs.drop k) (own : w2.ownsRow (w.heap.size + 1) 30 2 v (k + 1 + (n - k)) (flat out ++ flat [f] ++ flat (xs.drop k))) (ho : out.length = k) (hn : xs.length = n) (hk : k ≤ n) (hz : n ≤ 1099511627776) :
    ∃ A c, v = .slice A (k + 1 + (n - k)) c ∧ Sl w2 A (k + 1 + (n - k)) c (put f xs) ∧ ∀ r, (Value.slice A (k + 1 + (n - k)) c).ownBlock = some r → ∃ cur, w2.heap[r]? = some (.cells cur 30 (0, 0)) := by
  rw [← flat_append, ← flat_append, ← h] at own
  obtain ⟨A, c, rfl, s⟩ := Sl.of_row own (by rw [h]; simp; omega) (by omega)
  refine ⟨A, c, rfl, s, fun r hr => ?_⟩
  rcases own.2 with ⟨e1, _⟩ | ⟨g, cap, cur, e1, _, e3, _⟩
  · have := (Value.slice.inj e1).2.1; omega
  · obtain ⟨rfl, _, rfl⟩ := Value.slice.inj e1; cases hr; exact ⟨cur, e3⟩

/-- What Put leaves: a record in a block of features. -/
def PutPost (w : World) (l : List Ft) (e : Ending) (w' : World) : Prop := (∃ A n c, e = .returned (.slice A n c) ∧ Sl w' A n c l ∧ ∀ r, (Value.slice A n c).ownBlock = some r → ∃ cur, w'.heap[r]? = some (.cells cur 30 (0, 0))) ∧ Aft w w'

set_option maxRecDepth 100000 in
set_option maxHeartbeats 3200000 in
theorem putB_any (A : Option Addr) (n c : Nat) (xs : List Ft) (f : Ft) (w : World) (ha : Sl w A n c xs) (hsz : n ≤ 1099511627776) :
    Calls Try.prog 13 #[.slice A n c, .agg #[.string f.1, .string f.2]] w (PutPost w (put f xs)) := by
  have hnc := ha.le
  have hcm := ha.cmax
  have hlen := Lib.hid ha.len
  obtain ⟨i0, hi, hz0, hz1, hz2⟩ := info_parts Try.infoF
  go_enter Try.func13, Try.ntmps13
  go_wp2
  have own0 : ((w.alloc (.cells #[.string f.1, .string f.2] 30)).alloc (.cells #[] 30)).ownsRow (w.heap.size + 1) 30 2 (.slice (some ⟨w.heap.size + 1, 0, none⟩) 0 0) 0 [] := by
    have := World.ownsRow_lit (base := w.heap.size + 1) (e := 30) (size := 2) (w.alloc (.cells #[.string f.1, .string f.2] 30)) #[] 0 (by simp) (by unfold maxLen; omega) rfl
    rwa [World.size_alloc] at this
  go_loopw [5, 6] (fun v i wr => ∃ k out, k ≤ n ∧ i = .int .i64 (k : Nat) ∧ wr.ownsRow (w.heap.size + 1) 30 2 v k (flat out) ∧ out.length = k ∧ put f xs = out ++ put f (xs.drop k) ∧ wr.cell? ⟨w.heap.size, 0, none⟩ = some (.string f.1) ∧ wr.cell? ⟨w.heap.size, 1, none⟩ = some (.string f.2) ∧ w.heap.size + 1 ≤ wr.heap.size ∧ Aft w wr) (fun _ i _ => n - (intOf i).toNat)
  case atStart => exact ⟨0, [], Nat.zero_le _, rfl, own0, rfl, by simp, by simp, by simp, by simp, ((Aft.refl _).alloc _).alloc _⟩
  case round =>
    obtain ⟨k, out, hk, rfl, own, le, eq, x1, x2, hws, haf⟩ := hrel
    have HE := Lib.hid eq
    have HOWN := Lib.hid own
    have HL := Lib.hid le
    clear eq own own0 le
    by_cases hlt : k < n
    · obtain ⟨b, off, g, rfl, hg, h1, h2⟩ := ha.at_ hlt
      have c1 := haf.cell h1
      have c2 := haf.cell h2
      have HG := Lib.hid hg
      clear hg
      by_cases hl : lt g.1 f.1 = true
      · have hb : Op.bytesLess g.1.toList f.1.toList = true := hl
        go_wp2
        go_quiet (fail)
        go_wp2_with (at_builtin; refine wpList_append_own _ rfl _ _ 31 rfl (w.heap.size + 1) 30 i0 _ 2 32 Try.underlying31 hi hz0 hz1 hz2 rfl (by decide) _ _ _ rfl (HOWN.out.alloc _) ⟨wr.heap.size, 0, none⟩ 1 1 (flat [g]) rfl rfl (one_cells2 _ g _ rfl) (flat_one _) (by unfold maxLen; omega) (by omega) (by simp; omega) ?_; intro v' w2 own2 grow2 _)
        have hv' : ∃ g cap, v' = .slice (some ⟨g, 0, none⟩) (k + 1) cap := by
          rcases own2.2 with ⟨_, h0⟩ | ⟨g, cap, cur, hv, _⟩
          · omega
          · exact ⟨g, cap, hv⟩
        have hro : ∀ r, _ = some r → w.heap.size + 1 ≤ r := fun r hr => (HOWN.out.lt r hr).1
        have haf2 : Aft w w2 := ((haf.drewN _).alloc _).grown grow2 (fun r hr => by have := hro r hr; omega)
        have y1 := cell_grown grow2 hro (p := ⟨w.heap.size, 0, none⟩) (by simp) (((Aft.refl _).drewN _).alloc _ |>.cell x1)
        have y2 := cell_grown grow2 hro (p := ⟨w.heap.size, 1, none⟩) (by simp) (((Aft.refl _).drewN _).alloc _ |>.cell x2)
        have hws2 : w.heap.size + 1 ≤ w2.heap.size := by have := grow2.size; simp at this; omega
        have own2' : w2.ownsRow (w.heap.size + 1) 30 2 v' (k + 1) (flat (out ++ [g])) := by rw [flat_append]; exact own2
        have HO2 := Lib.hid own2'
        clear own2 own2' grow2 hro
        obtain ⟨g', cap', rfl⟩ := hv'
        go_wp2
        go_roundw
        case rel => exact ⟨k + 1, out ++ [g], by omega, by go_num, HO2.out, by simp [HL.out], put_step HE.out HG.out hl, y1, y2, hws2, haf2⟩
        case measure => simp [intOf]; omega
      · have hb : Op.bytesLess g.1.toList f.1.toList = false := by simpa [lt] using hl
        have hp := Lib.hid (put_stop HE.out HG.out (by simpa using hl))
        clear hl
        go_wp2
        go_quiet (fail)
        go_wp2_with (first | (at_builtin; refine wpList_append_own _ rfl (.tmp 31) (.tmp 33) 31 rfl (w.heap.size + 1) 30 i0 _ 2 32 Try.underlying31 hi hz0 hz1 hz2 rfl (by decide) _ _ _ rfl (HOWN.out.alloc _) ⟨wr.heap.size, 0, none⟩ 1 1 (flat [f]) rfl rfl (one_cells2 _ f _ rfl) (flat_one _) (by unfold maxLen; omega) (by omega) (by simp; omega) ?_; intro v1 w1 own1 grow1 _; have A1 : Aft w w1 := ((haf.drewN _).alloc _).grown grow1 (fun r hr => by have := (HOWN.out.lt r hr).1; omega)) | (at_builtin; (refine wpList_append_any rfl (.tmp 35) (.tmp 38) 31 rfl (w.heap.size + 1) 30 i0 _ 2 32 Try.underlying31 hi hz0 hz1 hz2 rfl (by decide) _ _ _ rfl own1 _ (n - k) (c - k) (flat (xs.drop k)) rfl (by rw [flat_length, List.length_drop, hlen.out]) (fun e => by cases e) (by have h := cut_cells (ha.aft A1) hk; rwa [if_neg (by omega)] at h) (flat_one _) (by unfold maxLen; omega) (by omega) (by have := A1.size; have := grow1.size; simp at this; omega) ?_); intro v2 w2 own2 grow2))
        obtain ⟨A3, c3, rfl, s3, hb3⟩ := put_fin hp.out own2 HL.out hlen.out hk hsz
        have A2 : Aft w w2 := A1.grown grow2 (fun r hr => by have := (own1.lt r hr).1; omega)
        clear own1 own2 grow1 grow2
        go_wp2
        go_ret
        exact ⟨⟨_, _, _, rfl, s3, hb3⟩, A2⟩
    · obtain rfl : k = n := by omega
      have hp := Lib.hid (put_end HE.out (by rw [hlen.out]; exact Nat.le_refl _))
      have hkk : decide ((k : Int) < (k : Int)) = false := by simp
      cases A with
      | none =>
        obtain rfl : c = 0 := ha.nl rfl
        obtain rfl : k = 0 := by omega
        go_wp2
        go_quiet (fail)
        go_wp2_with (first | (at_builtin; refine wpList_append_own _ rfl (.tmp 31) (.tmp 33) 31 rfl (w.heap.size + 1) 30 i0 _ 2 32 Try.underlying31 hi hz0 hz1 hz2 rfl (by decide) _ _ _ rfl (HOWN.out.alloc _) ⟨wr.heap.size, 0, none⟩ 1 1 (flat [f]) rfl rfl (one_cells2 _ f _ rfl) (flat_one _) (by unfold maxLen; omega) (by omega) (by simp; omega) ?_; intro v1 w1 own1 grow1 _; have A1 : Aft w w1 := ((haf.drewN _).alloc _).grown grow1 (fun r hr => by have := (HOWN.out.lt r hr).1; omega)) | (at_builtin; refine wpList_append_any rfl (.tmp 35) (.tmp 38) 31 rfl (w.heap.size + 1) 30 i0 _ 2 32 Try.underlying31 hi hz0 hz1 hz2 rfl (by decide) _ _ _ rfl own1 _ _ _ [] rfl rfl (by intro e; first | exact ⟨rfl, rfl⟩ | cases e) (by intro ad _ j u h; simp at h) (by intro u h; cases h) (by unfold maxLen; omega) (by omega) (by have := grow1.size; simp at this; omega) ?_; intro v2 w2 own2 grow2))
        have own2' : w2.ownsRow (w.heap.size + 1) 30 2 v2 (0 + 1 + (0 - 0)) (flat out ++ flat [f] ++ flat (xs.drop 0)) := by
          rw [Nat.sub_self, List.drop_of_length_le (by rw [hlen.out]; exact Nat.le_refl _)]
          exact own2
        obtain ⟨A3, c3, rfl, s3, hb3⟩ := put_fin hp.out own2' HL.out hlen.out hk hsz
        have A2 : Aft w w2 := A1.grown grow2 (fun r hr => by have := (own1.lt r hr).1; omega)
        clear own1 own2 own2' grow1 grow2
        go_wp2
        go_ret
        exact ⟨⟨_, _, _, rfl, s3, hb3⟩, A2⟩
      | some x =>
        by_cases hck : c = k
        · obtain rfl : c = k := hck
          go_wp2
          go_quiet (fail)
          go_wp2_with (first | (at_builtin; refine wpList_append_own _ rfl (.tmp 31) (.tmp 33) 31 rfl (w.heap.size + 1) 30 i0 _ 2 32 Try.underlying31 hi hz0 hz1 hz2 rfl (by decide) _ _ _ rfl (HOWN.out.alloc _) ⟨wr.heap.size, 0, none⟩ 1 1 (flat [f]) rfl rfl (one_cells2 _ f _ rfl) (flat_one _) (by unfold maxLen; omega) (by omega) (by simp; omega) ?_; intro v1 w1 own1 grow1 _; have A1 : Aft w w1 := ((haf.drewN _).alloc _).grown grow1 (fun r hr => by have := (HOWN.out.lt r hr).1; omega)) | (at_builtin; refine wpList_append_any rfl (.tmp 35) (.tmp 38) 31 rfl (w.heap.size + 1) 30 i0 _ 2 32 Try.underlying31 hi hz0 hz1 hz2 rfl (by decide) _ _ _ rfl own1 _ _ _ [] rfl rfl (by intro e; first | exact ⟨rfl, rfl⟩ | cases e) (by intro ad _ j u h; simp at h) (by intro u h; cases h) (by unfold maxLen; omega) (by omega) (by have := grow1.size; simp at this; omega) ?_; intro v2 w2 own2 grow2))
          have own2' : w2.ownsRow (w.heap.size + 1) 30 2 v2 (c + 1 + (c - c)) (flat out ++ flat [f] ++ flat (xs.drop c)) := by
            rw [Nat.sub_self, List.drop_of_length_le (by rw [hlen.out]; exact Nat.le_refl _)]
            exact own2
          obtain ⟨A3, c3, rfl, s3, hb3⟩ := put_fin hp.out own2' HL.out hlen.out hk hsz
          have A2 : Aft w w2 := A1.grown grow2 (fun r hr => by have := (own1.lt r hr).1; omega)
          clear own1 own2 own2' grow1 grow2
          go_wp2
          go_ret
          exact ⟨⟨_, _, _, rfl, s3, hb3⟩, A2⟩
        · go_wp2
          go_quiet (fail)
          go_wp2_with (first | (at_builtin; refine wpList_append_own _ rfl (.tmp 31) (.tmp 33) 31 rfl (w.heap.size + 1) 30 i0 _ 2 32 Try.underlying31 hi hz0 hz1 hz2 rfl (by decide) _ _ _ rfl (HOWN.out.alloc _) ⟨wr.heap.size, 0, none⟩ 1 1 (flat [f]) rfl rfl (one_cells2 _ f _ rfl) (flat_one _) (by unfold maxLen; omega) (by omega) (by simp; omega) ?_; intro v1 w1 own1 grow1 _; have A1 : Aft w w1 := ((haf.drewN _).alloc _).grown grow1 (fun r hr => by have := (HOWN.out.lt r hr).1; omega)) | (at_builtin; refine wpList_append_any rfl (.tmp 35) (.tmp 38) 31 rfl (w.heap.size + 1) 30 i0 _ 2 32 Try.underlying31 hi hz0 hz1 hz2 rfl (by decide) _ _ _ rfl own1 _ _ _ [] rfl rfl (by intro e; first | exact ⟨rfl, rfl⟩ | cases e) (by intro ad _ j u h; simp at h) (by intro u h; cases h) (by unfold maxLen; omega) (by omega) (by have := grow1.size; simp at this; omega) ?_; intro v2 w2 own2 grow2))
          have own2' : w2.ownsRow (w.heap.size + 1) 30 2 v2 (k + 1 + (k - k)) (flat out ++ flat [f] ++ flat (xs.drop k)) := by
            rw [Nat.sub_self, List.drop_of_length_le (by rw [hlen.out]; exact Nat.le_refl _)]
            exact own2
          obtain ⟨A3, c3, rfl, s3, hb3⟩ := put_fin hp.out own2' HL.out hlen.out hk hsz
          have A2 : Aft w w2 := A1.grown grow2 (fun r hr => by have := (own1.lt r hr).1; omega)
          clear own1 own2 own2' grow1 grow2
          go_wp2
          go_ret
          exact ⟨⟨_, _, _, rfl, s3, hb3⟩, A2⟩

theorem put_any (A : Option Addr) (n c : Nat) (xs : List Ft) (f : Ft) (w : World) (ha : Sl w A n c xs) (hsz : n ≤ 1099511627776) :
    Calls Try.prog 13 #[.slice A n c, .agg #[.string f.1, .string f.2]] w (SlPost w (put f xs)) :=
  (putB_any A n c xs f w ha hsz).mono fun _ _ ⟨⟨a, m, d, he, hs, _⟩, hA⟩ => ⟨⟨a, m, d, he, hs⟩, hA⟩
end Go.Proofs.Ytallloempmmgpaa
