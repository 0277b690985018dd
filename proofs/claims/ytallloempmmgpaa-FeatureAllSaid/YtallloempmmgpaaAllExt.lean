/-
  extend hands out the records that have the chosen features and one for each dimension, in order. Conditions: the row holds the chosen features, the dimensions lie in blocks of their own and are valid, the names are distinct; a round changes rows of records and their boxes alone.
-/
import Derived.Test.YtallloempmmgpaaAllLeaf
import Derived.Test.YtallloempmmgpaaAllClone3
import Derived.Test.YtallloempmmgpaaRegion
namespace Go.Proofs.Ytallloempmmgpaa
open Go.RowKit Go.Shelf
open FeatPlain

theorem wp_append_cap {P : Program} (w : World) {o : Oper} {a : Act} {K : Act → World → Prop} {Q : Exit → Act → World → Prop} (s x : Operand) (t : TypeId)
    (ho : o.op = .call { callee := .builtin .append, args := #[s, x], argTypes := #[t, t] })
    (base : Nat) (e : TypeId) (i : TypeInfo) (z : Value) (size bytes : Nat) (ht : P.underlying t = some (.slice e)) (hi : P.info? e = some i) (hz : i.zero = some z)
    (hsize : i.size = size) (hby : i.bytes = bytes) (hzs : z.cells.size = size) (hsz : 0 < size)
    (v : Value) (n : Nat) (xs : List Value) (hs : a.eval s = v) (hown : w.ownsRow base e size v n xs)
    (ad : Addr) (m c : Nat) (news : List Value) (hx : a.eval x = .slice (some ad) m c) (hl : news.length = m * size) (hnews : ∀ j u, news[j]? = some u → w.cell? (ad.add j) = some u) (h1 : ∀ u ∈ news, u.oneCell' = true) (hm : 0 < m)
    (h63 : n + m ≤ maxLen) (hbytes : (n + m) * bytes ≤ 140737488355328) (hbase : base ≤ w.heap.size)
    (h : ∀ v' w', w'.ownsRow base e size v' (n + m) (xs ++ news) → w.grownBy w' v.ownBlock → At w w' v v' n m → K (a.put o.dst v') w') : o.wp P a w K Q := by
  obtain ⟨v', w', hr, h2, h3, h4⟩ := run_append_cap (P := P) w base t o.type e i z size bytes ht hi hz hsize hby hzs hsz v n xs hown ad m c news hl hnews h1 hm h63 hbytes hbase
  unfold Oper.wp execOp
  simp only [ho, resolve, invoke, builtin, Sem.run_bind, Sem.run_pure, Result.andThen_ok, List.map_toArray, List.map_cons, List.map_nil, hs, hx, hr]
  exact h v' w' h2 h3 h4

/-- What stands when the records 'done' have come. -/
def ENow (B0 : Nat) (J : List Rc → World → Prop) (pre : List Rc) (ch : List Ft) (v : Value) (W : World) (dn : List (List Ft)) (B : World) : Prop :=
  ∃ new : List Rc, new.map (·.2) = dn ∧ J (pre ++ new) B ∧ New W B new ∧ B.ownsRow B0 30 2 v ch.length (flat ch) ∧ Ev B0 W B ∧ Keep v W B

/-- The records for the first values of a dimension. -/
def part (ch : List Ft) (d : Dm) (ds : List Dm) (j : Nat) : List (List Ft) := (d.2.take j).flatMap fun x => allR (ch ++ [(d.1, x)]) ds
theorem part_next {ch : List Ft} {d : Dm} {ds : List Dm} {j : Nat} {s : ByteArray} (h : d.2[j]? = some s) : part ch d ds (j + 1) = part ch d ds j ++ allR (ch ++ [(d.1, s)]) ds := by
  unfold part
  rw [take_next h, List.flatMap_append]
  simp
theorem part_pre (ch : List Ft) (d : Dm) (ds : List Dm) (j : Nat) : part ch d ds j <+: allR ch (d :: ds) := by
  rw [allR]
  conv => rhs; rw [← List.take_append_drop j d.2]
  rw [List.flatMap_append]
  exact List.prefix_append _ _

/-- The recursive call, where one more feature was chosen. -/
theorem ext_call {l B0 N : Nat} {J Jx : List Rc → World → Prop} (hJ : ∀ s A B, J s A → Stp B0 s A B → J s B) {pre : List Rc} {ch : List Ft} {v : Value} {d : Dm} {ds : List Dm} {W : World}
    (ih : ∀ (pre : List Rc) (ch : List Ft) (v : Value) (A : Option Addr) (c : Nat) (W : World), J pre W → Lo W pre → Dj v pre → W.ownsRow B0 30 2 v ch.length (flat ch) → Di W A ds.length c ds → ch.length + ds.length ≤ 4 → ((ch.map (·.1)) ++ ds.map (·.1)).Nodup → pre.length + (allR ch ds).length ≤ N → B0 ≤ W.heap.size →
      Calls Try.prog 28 #[v, .slice A ds.length c, .func (.yield l) #[] #[]] W (EPost B0 J Jx pre ch v ds W))
    (hLo : Lo W pre) (hDj : Dj v pre) (ownW : W.ownsRow B0 30 2 v ch.length (flat ch)) (hB : B0 ≤ W.heap.size) (h4 : ch.length + (d :: ds).length ≤ 4) (hnd : ((ch.map (·.1)) ++ (d :: ds).map (·.1)).Nodup) (hN : pre.length + (allR ch (d :: ds)).length ≤ N)
    {j : Nat} {s : ByteArray} (hs : d.2[j]? = some s) {wr X w3 : World} (hnow : ENow B0 J pre ch v W (part ch d ds j) wr) (hX : Aft wr X) (ownX : X.ownsRow B0 30 2 v ch.length (flat ch)) {v' : Value}
    (own3 : w3.ownsRow B0 30 2 v' (ch.length + 1) (flat ch ++ flat [(d.1, s)])) (grow3 : X.grownBy w3 v.ownBlock) (at3 : At X w3 v v' ch.length 1) {A : Option Addr} {c : Nat} (hdi : Di w3 A ds.length c ds) :
    Calls Try.prog 28 #[v', .slice A ds.length c, .func (.yield l) #[] #[]] w3 (fun e B => (e = .returned (.bool true) ∧ ENow B0 J pre ch v W (part ch d ds (j + 1)) B) ∨ (e = .returned (.bool false) ∧ ∃ new : List Rc, new.map (·.2) <+: allR ch (d :: ds) ∧ Jx (pre ++ new) B)) := by
  obtain ⟨new, hmap, hj, hnew, own, hev, hkeep⟩ := hnow
  have hWr : W.heap.size ≤ wr.heap.size := hev.size
  have hBr : B0 ≤ wr.heap.size := Nat.le_trans hB hWr
  have hBX : B0 ≤ X.heap.size := Nat.le_trans hBr hX.size
  have hLo' : Lo wr (pre ++ new) := hLo.append hWr hnew
  have hDj' : Dj v (pre ++ new) := hDj.more (row_base ownW (Nat.zero_le _)) hnew
  have hLoX := hLo'.more hX.size
  have hj1 := hJ _ _ _ hj (Stp.of_aft hX hBr)
  have hst := Stp.of_append (pre := pre ++ new) ownX grow3 hBX hDj'
  have hj3 := hJ _ _ _ hj1 hst
  have hX3 : X.heap.size ≤ w3.heap.size := grow3.size
  have hDj3 : Dj v' (pre ++ new) := by
    intro x hx r hr
    rcases at3 with ⟨g, cap, rfl, rfl⟩ | ⟨h1, _⟩
    · exact hDj' x hx r hr
    · rw [h1]
      intro e
      cases e
      have := hLoX x hx _ hr
      omega
  have hfl : flat (ch ++ [(d.1, s)]) = flat ch ++ flat [(d.1, s)] := flat_append _ _
  have hlen : (ch ++ [(d.1, s)]).length = ch.length + 1 := by simp
  have hnl : new.length = (part ch d ds j).length := by rw [← hmap, List.length_map]
  have hpl := (part_pre ch d ds (j + 1)).length_le
  rw [part_next hs, List.length_append] at hpl
  simp only [List.length_cons] at h4
  have hc := ih (pre ++ new) (ch ++ [(d.1, s)]) v' A c w3 hj3 (hLoX.more hX3) hDj3 (by rw [hlen, hfl]; exact own3) hdi (by rw [hlen]; omega) (by simpa using hnd) (by rw [List.length_append]; omega) (Nat.le_trans hBX hX3)
  refine hc.mono ?_
  rintro e w4 (⟨rfl, new', hmap', hj4, hnew', own4, hev4, hkeep4⟩ | ⟨rfl, new', hpre', hjx⟩)
  · refine .inl ⟨rfl, new ++ new', ?_, ?_, ?_, ?_, ?_, ?_⟩
    · rw [List.map_append, hmap, hmap', part_next hs]
    · rw [← List.append_assoc]; exact hj4
    · exact hnew.trans (hnew'.base (Nat.le_trans hX.size hX3)) hWr (Nat.le_trans (Nat.le_trans hX.size hX3) hev4.size)
    · rw [hlen, hfl] at own4
      exact back ownX at3 own4 hkeep4
    · exact hev.trans ((Chg.of_aft hX hBr).trans (hst.ev.trans hev4))
    · exact hkeep.trans ((Keep.of_aft hX).trans (Keep.step grow3 at3 hkeep4))
  · refine .inr ⟨rfl, new ++ new', ?_, by rw [← List.append_assoc]; exact hjx⟩
    rw [List.map_append, hmap]
    refine List.IsPrefix.trans ?_ (part_pre ch d ds (j + 1))
    rw [part_next hs]
    exact (List.prefix_append_right_inj _).2 hpre'

set_option maxRecDepth 100000 in
set_option maxHeartbeats 2400000 in
theorem ext_any (l B0 N : Nat) (J Jx : List Rc → World → Prop) (hY : Yld B0 N l J Jx) (hJ : ∀ s A B, J s A → Stp B0 s A B → J s B) : ∀ (ds : List Dm) (pre : List Rc) (ch : List Ft) (v : Value) (A : Option Addr) (c : Nat) (W : World),
    J pre W → Lo W pre → Dj v pre → W.ownsRow B0 30 2 v ch.length (flat ch) → Di W A ds.length c ds → ch.length + ds.length ≤ 4 → ((ch.map (·.1)) ++ ds.map (·.1)).Nodup → pre.length + (allR ch ds).length ≤ N → B0 ≤ W.heap.size →
      Calls Try.prog 28 #[v, .slice A ds.length c, .func (.yield l) #[] #[]] W (EPost B0 J Jx pre ch v ds W)
  | [], pre, ch, v, A, c, W, hj, _, _, own, _, h4, hnd, hN, hB => ext_leaf l B0 N J Jx hY hJ pre ch v A c W hj own (by simpa using h4) (by simpa using hnd) (by simp [allR] at hN; omega) hB
  | d :: ds, pre, ch, v, A, c, W, hj, hLo, hDj, own, hdi, h4, hnd, hN, hB => by
    have ih := ext_any l B0 N J Jx hY hJ ds
    obtain ⟨i0, hi, hz0, hz1, hz2⟩ := info_parts Try.infoF
    obtain ⟨b, off, vv, rfl, k1, k2, hsr⟩ := hdi.head
    obtain ⟨xa, xc, hvv, hxs⟩ := Ss.of_own hsr.1 rfl (by have := hsr.2; omega)
    obtain ⟨m, hm⟩ : ∃ m, m = d.2.length := ⟨_, rfl⟩
    obtain ⟨M, hM⟩ : ∃ M, M = (d :: ds).length := ⟨_, rfl⟩
    obtain ⟨K0, hK0⟩ : ∃ K0, K0 = ch.length := ⟨_, rfl⟩
    have hm8 : m ≤ 8 := by rw [hm]; exact hsr.2
    have hMc : M ≤ c := by have := hdi.le; omega
    have hcm := hdi.cmax
    have hM4 : K0 + M ≤ 4 := by omega
    have hM1 : ds.length = M - 1 := by rw [hM, List.length_cons]; omega
    have hM0 : 1 ≤ M := by rw [hM, List.length_cons]; omega
    obtain ⟨va, vc, rfl⟩ : ∃ va vc, v = .slice va K0 vc := by
      rcases own.2 with ⟨rfl, h0⟩ | ⟨g, cap, cur, rfl, _⟩
      · exact ⟨none, 0, by rw [hK0, h0]⟩
      · exact ⟨_, _, by rw [hK0]⟩
    have hcall : ∀ (j : Nat) (s : ByteArray) (hs : d.2[j]? = some s) (wr X w3 : World) (hnow : ENow B0 J pre ch (.slice va K0 vc) W (part ch d ds j) wr) (hX : Aft wr X) (ownX : X.ownsRow B0 30 2 (.slice va K0 vc) K0 (flat ch)) (v' : Value)
        (own3 : w3.ownsRow B0 30 2 v' (K0 + 1) (flat ch ++ flat [(d.1, s)])) (grow3 : X.grownBy w3 (Value.slice va K0 vc).ownBlock) (at3 : At X w3 (.slice va K0 vc) v' K0 1),
        Calls Try.prog 28 #[v', .slice (if c = 1 then some ⟨b, off, none⟩ else some ⟨b, off + 2, none⟩) (M - 1) (c - 1), .func (.yield l) #[] #[]] w3 (fun e B => (e = .returned (.bool true) ∧ ENow B0 J pre ch (.slice va K0 vc) W (part ch d ds (j + 1)) B) ∨ (e = .returned (.bool false) ∧ ∃ new : List Rc, new.map (·.2) <+: allR ch (d :: ds) ∧ Jx (pre ++ new) B)) := by
      intro j s hs wr X w3 hnow hX ownX v' own3 grow3 at3
      have hevr : Ev B0 W wr := by obtain ⟨_, _, _, _, _, h, _⟩ := hnow; exact h
      have hBr : B0 ≤ wr.heap.size := Nat.le_trans hB hevr.size
      have hev3 : Ev B0 W w3 := hevr.trans ((Chg.of_aft hX hBr).trans (Chg.of_grown grow3 (Nat.le_trans hBr hX.size) (fun r hr => ⟨(row_type ownX r hr).1, fun cur t h => by rw [(row_type ownX r hr).2 cur t h]; simp⟩)))
      have hdi3 := (hdi.chg hev3 (by decide) (by decide)).cut
      rw [← hM1]
      subst hK0
      exact ext_call hJ ih hLo hDj own hB h4 hnd hN hs hnow hX ownX own3 grow3 at3 hdi3
    have HC := Lib.hid hcall
    have HD := Lib.hid hdi
    have HN0 : ENow B0 J pre ch (.slice va K0 vc) W (part ch d ds 0) W := ⟨[], by simp [part], by simpa using hj, New.nil _ _, own, Chg.refl _ _ _, Keep.refl _ _⟩
    have HM := Lib.hid hM
    have Hm := Lib.hid hm
    have HK0 := Lib.hid hK0
    have HS := Lib.hid hsr
    rw [← hM]
    rw [← hm] at hvv hxs
    have hlast : EPost B0 J Jx pre ch (.slice va K0 vc) (d :: ds) W (.returned (.bool true)) = fun B => EPost B0 J Jx pre ch (.slice va K0 vc) (d :: ds) W (.returned (.bool true)) B := rfl
    clear hlast
    subst hvv
    clear hcall hdi hM hm hK0 hsr own hj ih hJ hY
    have hMp : 0 < M := hM0
    have hMi : (1 : Int) ≤ (M : Int) := by omega
    have hci : (1 : Int) ≤ (c : Int) := by omega
    have hcn : 1 ≤ c := by omega
    have hMn : ((M : Int) == 0) = false := by rw [beq_eq_false_iff_ne]; omega
    have hMn' : ¬ (M : Int) = 0 := by omega
    go_enter Try.func28, Try.ntmps28
    go_wp2
    go_loopw [22] (fun i wr => ∃ j, j ≤ m ∧ i = .int .i64 (j : Nat) ∧ ENow B0 J pre ch (.slice va K0 vc) W (part ch d ds j) wr) (fun i _ => m - (intOf i).toNat)
    case atStart => exact ⟨0, Nat.zero_le _, rfl, HN0⟩
    case round =>
      clear HN0 k1 k2
      obtain ⟨j, hjm, rfl, hnow⟩ := hrel
      by_cases hlt : j < m
      · have hevr : Ev B0 W wr := by obtain ⟨_, _, _, _, _, h, _⟩ := hnow; exact h
        have ownr : wr.ownsRow B0 30 2 (.slice va K0 vc) K0 (flat ch) := by obtain ⟨_, _, _, _, h, _, _⟩ := hnow; rw [← HK0.out] at h; exact h
        obtain ⟨b', off', vv', e1, n1, n2, _⟩ := (HD.out.chg hevr (by decide) (by decide)).head
        cases e1
        have hsr2 := HS.out.chg hevr (by decide)
        obtain ⟨xa', xc', e2, hxs2⟩ := Ss.of_own hsr2.1 rfl (by have := hsr2.2; omega)
        rw [← Hm.out] at e2 hxs2
        cases e2
        obtain ⟨bx, ox, s, rfl, hs, c1⟩ := hxs2.at_ hlt
        have n1' : wr.drew.cell? ⟨b, off, none⟩ = some (.string d.1) := n1
        have hX : Aft wr (wr.drew.alloc (.cells #[.string d.1, .string s] 30)) := (Aft.refl wr).drew.alloc _
        have ownX : (wr.drew.alloc (.cells #[.string d.1, .string s] 30)).ownsRow B0 30 2 (.slice va K0 vc) K0 (flat ch) := World.ownsRow.alloc (w := wr.drew) ownr _
        have hcX : ∀ j u, (flat [(d.1, s)])[j]? = some u → (wr.drew.alloc (.cells #[.string d.1, .string s] 30)).cell? ((⟨wr.heap.size, 0, none⟩ : Addr).add j) = some u := one_cells wr.drew (d.1, s)
        have hBX : B0 ≤ (wr.drew.alloc (.cells #[.string d.1, .string s] 30)).heap.size := Nat.le_trans (Nat.le_trans hB hevr.size) hX.size
        have ih_call := HC.out j s hs wr (wr.drew.alloc (.cells #[.string d.1, .string s] 30))
        have IC := Lib.hid ih_call
        clear ih_call hs hxs2 hsr2 hevr ownr
        by_cases hc1 : c = 1
        · subst hc1
          go_wp2
          refine wp_region_held_drew (S := fun _ => True) (by kernel_rfl) trivial (fun hHeld => ?_)
          refine take_on (i := 0) (v := ?v5001) rfl (by kernel_rfl) (by kernel_rfl) (by kernel_rfl) (fun _ _ _ h => h) (by rfl) (by assumption) ?y5001 ?_
          case y5001 => (intro w hSw; (try dsimp only at hSw); go_simp; (try with_reducible rfl))
          try simp only [Act.put, List.setIfInBounds_toArray, List.set_cons_zero, List.set_cons_succ]
          refine take_on (i := 1) (v := ?v5002) rfl (by kernel_rfl) (by kernel_rfl) (by kernel_rfl) (fun _ _ _ h => h) (by rfl) (by assumption) ?y5002 ?_
          case y5002 => (intro w hSw; (try dsimp only at hSw); go_simp; (try with_reducible rfl))
          try simp only [Act.put, List.setIfInBounds_toArray, List.set_cons_zero, List.set_cons_succ]
          refine take_on (i := 2) (v := ?v5003) rfl (by kernel_rfl) (by kernel_rfl) (by kernel_rfl) (fun _ _ _ h => h) (by rfl) (by assumption) ?y5003 ?_
          case y5003 => (intro w hSw; (try dsimp only at hSw); go_simp; (try with_reducible rfl))
          try simp only [Act.put, List.setIfInBounds_toArray, List.set_cons_zero, List.set_cons_succ]
          refine take_on (i := 3) (v := ?v5004) rfl (by kernel_rfl) (by kernel_rfl) (by kernel_rfl) (fun _ _ _ h => h) (by rfl) (by assumption) ?y5004 ?_
          case y5004 => (intro w hSw; (try dsimp only at hSw); go_simp; (try with_reducible rfl))
          try simp only [Act.put, List.setIfInBounds_toArray, List.set_cons_zero, List.set_cons_succ]
          refine take_on (i := 5) (v := ?v5005) rfl (by kernel_rfl) (by kernel_rfl) (by kernel_rfl) (fun _ _ _ h => h) (by rfl) (by assumption) ?y5005 ?_
          case y5005 => (intro w hSw; (try dsimp only at hSw); go_simp; (try with_reducible rfl))
          try simp only [Act.put, List.setIfInBounds_toArray, List.set_cons_zero, List.set_cons_succ]
          refine take_on (i := 9) (v := ?v5006) rfl (by kernel_rfl) (by kernel_rfl) (by kernel_rfl) (fun _ _ _ h => h) (by rfl) (by assumption) ?y5006 ?_
          case y5006 => (intro w hSw; (try dsimp only at hSw); go_simp; (try with_reducible rfl))
          try simp only [Act.put, List.setIfInBounds_toArray, List.set_cons_zero, List.set_cons_succ]
          refine take_on (i := 10) (v := ?v5007) rfl (by kernel_rfl) (by kernel_rfl) (by kernel_rfl) (fun _ _ _ h => h) (by rfl) (by assumption) ?y5007 ?_
          case y5007 => (intro w hSw; (try dsimp only at hSw); go_simp; (try with_reducible rfl))
          try simp only [Act.put, List.setIfInBounds_toArray, List.set_cons_zero, List.set_cons_succ]
          refine take_on (i := 11) (v := ?v5008) rfl (by kernel_rfl) (by kernel_rfl) (by kernel_rfl) (fun _ _ _ h => h) (by rfl) (by assumption) ?y5008 ?_
          case y5008 => (intro w hSw; (try dsimp only at hSw); go_simp; (try with_reducible rfl))
          try simp only [Act.put, List.setIfInBounds_toArray, List.set_cons_zero, List.set_cons_succ]
          refine one_ready (i := 4) rfl (by kernel_rfl) (by rfl) (fun K hK => ?_)
          go_simp
          refine hK.out _ _ (trivial) (fun hHeld => ?_)
          clear hK K
          try simp only [Act.put, List.setIfInBounds_toArray, List.set_cons_zero, List.set_cons_succ]
          refine take_on (i := 6) (v := ?v5009) rfl (by kernel_rfl) (by kernel_rfl) (by kernel_rfl) (fun _ _ _ h => h) (by rfl) (by assumption) ?y5009 ?_
          case y5009 => (intro w hSw; (try dsimp only at hSw); go_simp; (try with_reducible rfl))
          try simp only [Act.put, List.setIfInBounds_toArray, List.set_cons_zero, List.set_cons_succ]
          refine one_ready (i := 7) rfl (by kernel_rfl) (by rfl) (fun K hK => ?_)
          go_simp
          refine hK.out _ _ (trivial) (fun hHeld => ?_)
          clear hK K
          try simp only [Act.put, List.setIfInBounds_toArray, List.set_cons_zero, List.set_cons_succ]
          refine one_ready (i := 8) rfl (by kernel_rfl) (by rfl) (fun K hK => ?_)
          refine wp_append_cap _ (.tmp 26) (.tmp 33) 31 rfl B0 30 i0 _ 2 32 Try.underlying31 hi hz0 hz1 hz2 rfl (by decide) _ K0 (flat ch) rfl ownX ⟨wr.heap.size, 0, none⟩ 1 1 (flat [(d.1, s)]) rfl rfl hcX (flat_one _) (by omega) (by unfold maxLen; omega) (by omega) hBX ?_
          intro v' w3 own3 grow3 at3
          obtain ⟨g3, c3, rfl⟩ := ownsRow_succ own3
          have HG := IC.out w3 hnow hX ownX _ own3 grow3 at3
          have e0 : M - 1 = 0 := by omega
          rw [e0] at HG
          simp only [if_true, Nat.sub_self] at HG
          clear e0
          have HG := Lib.hid HG
          try go_simp
          refine hK.out _ _ (trivial) (fun hHeld => ?_)
          clear hK K
          try simp only [Act.put, List.setIfInBounds_toArray, List.set_cons_zero, List.set_cons_succ]
          refine one_ready (i := 12) rfl (by kernel_rfl) (by rfl) (fun K hK => ?_)
          go_simp
          refine HG.out.mono ?_
          rintro e w4 (⟨rfl, hnow⟩ | ⟨rfl, hoff⟩)
          · refine hK.out _ _ trivial (fun hHeld => ?_)
            clear hK K HG
            try simp only [Act.put, List.setIfInBounds_toArray, List.set_cons_zero, List.set_cons_succ]
            refine take_on (i := 13) (v := ?v5010) rfl (by kernel_rfl) (by kernel_rfl) (by kernel_rfl) (fun _ _ _ h => h) (by rfl) (by assumption) ?y5010 ?_
            case y5010 => (intro w hSw; (try dsimp only at hSw); go_simp; (try with_reducible rfl))
            try simp only [Act.put, List.setIfInBounds_toArray, List.set_cons_zero, List.set_cons_succ]
            refine wpAnyH_done (by kernel_rfl) ?_ _
            go_wp2
            go_roundw
            case rel => exact ⟨j + 1, by omega, by go_num, hnow⟩
            case measure => simp [intOf]; omega
          · refine hK.out _ _ trivial (fun hHeld => ?_)
            clear hK K HG
            try simp only [Act.put, List.setIfInBounds_toArray, List.set_cons_zero, List.set_cons_succ]
            refine take_on (i := 13) (v := ?v5011) rfl (by kernel_rfl) (by kernel_rfl) (by kernel_rfl) (fun _ _ _ h => h) (by rfl) (by assumption) ?y5011 ?_
            case y5011 => (intro w hSw; (try dsimp only at hSw); go_simp; (try with_reducible rfl))
            try simp only [Act.put, List.setIfInBounds_toArray, List.set_cons_zero, List.set_cons_succ]
            refine wpAnyH_done (by kernel_rfl) ?_ _
            go_wp2
            go_ret
            exact .inr ⟨rfl, hoff⟩
        · go_wp2
          refine wp_region_held_drew (S := fun _ => True) (by kernel_rfl) trivial (fun hHeld => ?_)
          refine take_on (i := 0) (v := ?v5012) rfl (by kernel_rfl) (by kernel_rfl) (by kernel_rfl) (fun _ _ _ h => h) (by rfl) (by assumption) ?y5012 ?_
          case y5012 => (intro w hSw; (try dsimp only at hSw); go_simp; (try with_reducible rfl))
          try simp only [Act.put, List.setIfInBounds_toArray, List.set_cons_zero, List.set_cons_succ]
          refine take_on (i := 1) (v := ?v5013) rfl (by kernel_rfl) (by kernel_rfl) (by kernel_rfl) (fun _ _ _ h => h) (by rfl) (by assumption) ?y5013 ?_
          case y5013 => (intro w hSw; (try dsimp only at hSw); go_simp; (try with_reducible rfl))
          try simp only [Act.put, List.setIfInBounds_toArray, List.set_cons_zero, List.set_cons_succ]
          refine take_on (i := 2) (v := ?v5014) rfl (by kernel_rfl) (by kernel_rfl) (by kernel_rfl) (fun _ _ _ h => h) (by rfl) (by assumption) ?y5014 ?_
          case y5014 => (intro w hSw; (try dsimp only at hSw); go_simp; (try with_reducible rfl))
          try simp only [Act.put, List.setIfInBounds_toArray, List.set_cons_zero, List.set_cons_succ]
          refine take_on (i := 3) (v := ?v5015) rfl (by kernel_rfl) (by kernel_rfl) (by kernel_rfl) (fun _ _ _ h => h) (by rfl) (by assumption) ?y5015 ?_
          case y5015 => (intro w hSw; (try dsimp only at hSw); go_simp; (try with_reducible rfl))
          try simp only [Act.put, List.setIfInBounds_toArray, List.set_cons_zero, List.set_cons_succ]
          refine take_on (i := 5) (v := ?v5016) rfl (by kernel_rfl) (by kernel_rfl) (by kernel_rfl) (fun _ _ _ h => h) (by rfl) (by assumption) ?y5016 ?_
          case y5016 => (intro w hSw; (try dsimp only at hSw); go_simp; (try with_reducible rfl))
          try simp only [Act.put, List.setIfInBounds_toArray, List.set_cons_zero, List.set_cons_succ]
          refine take_on (i := 9) (v := ?v5017) rfl (by kernel_rfl) (by kernel_rfl) (by kernel_rfl) (fun _ _ _ h => h) (by rfl) (by assumption) ?y5017 ?_
          case y5017 => (intro w hSw; (try dsimp only at hSw); go_simp; (try with_reducible rfl))
          try simp only [Act.put, List.setIfInBounds_toArray, List.set_cons_zero, List.set_cons_succ]
          refine take_on (i := 10) (v := ?v5018) rfl (by kernel_rfl) (by kernel_rfl) (by kernel_rfl) (fun _ _ _ h => h) (by rfl) (by assumption) ?y5018 ?_
          case y5018 => (intro w hSw; (try dsimp only at hSw); go_simp; (try with_reducible rfl))
          try simp only [Act.put, List.setIfInBounds_toArray, List.set_cons_zero, List.set_cons_succ]
          refine take_on (i := 11) (v := ?v5019) rfl (by kernel_rfl) (by kernel_rfl) (by kernel_rfl) (fun _ _ _ h => h) (by rfl) (by assumption) ?y5019 ?_
          case y5019 => (intro w hSw; (try dsimp only at hSw); go_simp; (try with_reducible rfl))
          try simp only [Act.put, List.setIfInBounds_toArray, List.set_cons_zero, List.set_cons_succ]
          refine one_ready (i := 4) rfl (by kernel_rfl) (by rfl) (fun K hK => ?_)
          go_simp
          refine hK.out _ _ (trivial) (fun hHeld => ?_)
          clear hK K
          try simp only [Act.put, List.setIfInBounds_toArray, List.set_cons_zero, List.set_cons_succ]
          refine take_on (i := 6) (v := ?v5020) rfl (by kernel_rfl) (by kernel_rfl) (by kernel_rfl) (fun _ _ _ h => h) (by rfl) (by assumption) ?y5020 ?_
          case y5020 => (intro w hSw; (try dsimp only at hSw); go_simp; (try with_reducible rfl))
          try simp only [Act.put, List.setIfInBounds_toArray, List.set_cons_zero, List.set_cons_succ]
          refine one_ready (i := 7) rfl (by kernel_rfl) (by rfl) (fun K hK => ?_)
          go_simp
          refine hK.out _ _ (trivial) (fun hHeld => ?_)
          clear hK K
          try simp only [Act.put, List.setIfInBounds_toArray, List.set_cons_zero, List.set_cons_succ]
          refine one_ready (i := 8) rfl (by kernel_rfl) (by rfl) (fun K hK => ?_)
          refine wp_append_cap _ (.tmp 26) (.tmp 33) 31 rfl B0 30 i0 _ 2 32 Try.underlying31 hi hz0 hz1 hz2 rfl (by decide) _ K0 (flat ch) rfl ownX ⟨wr.heap.size, 0, none⟩ 1 1 (flat [(d.1, s)]) rfl rfl hcX (flat_one _) (by omega) (by unfold maxLen; omega) (by omega) hBX ?_
          intro v' w3 own3 grow3 at3
          obtain ⟨g3, c3, rfl⟩ := ownsRow_succ own3
          have HG := IC.out w3 hnow hX ownX _ own3 grow3 at3
          rw [if_neg hc1] at HG
          have HG := Lib.hid HG
          try go_simp
          refine hK.out _ _ (trivial) (fun hHeld => ?_)
          clear hK K
          try simp only [Act.put, List.setIfInBounds_toArray, List.set_cons_zero, List.set_cons_succ]
          refine one_ready (i := 12) rfl (by kernel_rfl) (by rfl) (fun K hK => ?_)
          go_simp
          refine HG.out.mono ?_
          rintro e w4 (⟨rfl, hnow⟩ | ⟨rfl, hoff⟩)
          · refine hK.out _ _ trivial (fun hHeld => ?_)
            clear hK K HG
            try simp only [Act.put, List.setIfInBounds_toArray, List.set_cons_zero, List.set_cons_succ]
            refine take_on (i := 13) (v := ?v5021) rfl (by kernel_rfl) (by kernel_rfl) (by kernel_rfl) (fun _ _ _ h => h) (by rfl) (by assumption) ?y5021 ?_
            case y5021 => (intro w hSw; (try dsimp only at hSw); go_simp; (try with_reducible rfl))
            try simp only [Act.put, List.setIfInBounds_toArray, List.set_cons_zero, List.set_cons_succ]
            refine wpAnyH_done (by kernel_rfl) ?_ _
            go_wp2
            go_roundw
            case rel => exact ⟨j + 1, by omega, by go_num, hnow⟩
            case measure => simp [intOf]; omega
          · refine hK.out _ _ trivial (fun hHeld => ?_)
            clear hK K HG
            try simp only [Act.put, List.setIfInBounds_toArray, List.set_cons_zero, List.set_cons_succ]
            refine take_on (i := 13) (v := ?v5022) rfl (by kernel_rfl) (by kernel_rfl) (by kernel_rfl) (fun _ _ _ h => h) (by rfl) (by assumption) ?y5022 ?_
            case y5022 => (intro w hSw; (try dsimp only at hSw); go_simp; (try with_reducible rfl))
            try simp only [Act.put, List.setIfInBounds_toArray, List.set_cons_zero, List.set_cons_succ]
            refine wpAnyH_done (by kernel_rfl) ?_ _
            go_wp2
            go_ret
            exact .inr ⟨rfl, hoff⟩
      · obtain rfl : j = m := by omega
        have hp : part ch d ds j = allR ch (d :: ds) := by unfold part; rw [List.take_of_length_le (by rw [Hm.out]; exact Nat.le_refl _), allR]
        rw [hp] at hnow
        have HW := Lib.hid hnow
        clear hnow hp
        go_wp2
        go_ret
        exact .inl ⟨rfl, HW.out⟩
end Go.Proofs.Ytallloempmmgpaa
