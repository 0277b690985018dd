/-
  byStem groups the lexemes of a list by their stems. Condition: the slice holds the lexemes, at most 2^32 of them.
-/
import Derived.Test.YtpkhoklahcgcoaaDoorLexMap
import Derived.Test.YtpkhoklahcgcoaaDoorLexClone
import Derived.Test.YtpkhoklahcgcoaaDoorFtAll
namespace Go.Proofs.YtpkhoklahcgcoaaDoor
open Go.RowKit Go.Maps Go.WideMaps
open FeatPlain

section
variable {P : Program} {w : World}
theorem wp_append_cap {o : Oper} {a : Act} {K : Act → World → Prop} {Q : Exit → Act → World → Prop} (s x : Operand) (t : TypeId)
    (ho : o.op = .call { callee := .builtin .append, args := #[s, x], argTypes := #[t, t] })
    (base : Nat) (e : TypeId) (i : TypeInfo) (z : Value) (size bytes : Nat) (ht : P.underlying t = some (.slice e)) (hi : P.info? e = some i) (hz : i.zero = some z)
    (hsize : i.size = size) (hby : i.bytes = bytes) (hzs : z.cells.size = size) (hsz : 0 < size)
    (v : Value) (n : Nat) (xs : List Value) (hs : a.eval s = v) (hown : w.ownsRow base e size v n xs)
    (ad : Addr) (m c : Nat) (news : List Value) (hx : a.eval x = .slice (some ad) m c) (hl : news.length = m * size) (hnews : ∀ j u, news[j]? = some u → w.cell? (ad.add j) = some u) (h1 : ∀ u ∈ news, u.oneCell' = true) (hm : 0 < m)
    (h63 : n + m ≤ maxLen) (hbytes : (n + m) * bytes ≤ 140737488355328) (hbase : base ≤ w.heap.size)
    (h : ∀ v' w', w'.ownsRow base e size v' (n + m) (xs ++ news) → w.grownBy w' v.ownBlock → At w w' v v' n m → K (a.put o.dst v') w') : o.wp P a w K Q := by
  obtain ⟨v', w', hr, h2, h3, h4⟩ := run_append_cap (P := P) w base t o.type e i z size bytes ht hi hz hsize hby hzs hsz v n xs hown ad m c news hl hnews h1 hm h63 hbytes hbase
  unfold Oper.wp execOp
  simp only [ho, resolve, invoke, builtin, Sem.run_bind, Sem.run_pure, Result.andThen_ok, List.map_toArray, List.map_cons, List.map_nil, hs, hx, hr]
  exact h v' w' h2 h3 h4
theorem wp_mapUpdate_own {H : Type} {o : Oper} {a : Act} {K' : Act → World → Prop} {Q : Exit → Act → World → Prop} (m x v : Operand) (t : TypeId) (hop : o.op = Op.mapUpdate t m x v)
    (k e : TypeId) (K : Keyed P k) (ht : P.underlying t = some (.map k e)) (R : Value → Option (DataW H × List MemPlace)) (b n : Nat) (D : DataW H)
    (hm : a.eval m = .map (some b)) (hown : w.ownsMap P k R b n D) (hn : n < maxLen) (key val : Value) (kl : Lit) (hx : a.eval x = key) (hv : a.eval v = val) (hkey : keyOf P k key = some kl)
    (d : DataW H) (ps : List MemPlace) (hval : R val = some (d, ps))
    (hK : ∀ w', w'.ownsMap P k R b (n + 1) (D.put kl d) → w.grownBy w' (some b) → K' (a.put o.dst undef) w') : o.wp P a w K' Q := by
  obtain ⟨w', hrun, r1, r2⟩ := hown.update K ht hn hkey hval
  unfold Oper.wp
  simp [execOp, hop, hm, hx, hv, hrun, Result.andThen]
  exact hK w' r1 r2
end

section
variable {P : Program} {ops : Array Oper} {Q : Exit → Act → World → Prop} {md : Region.Mode} {S : World → Prop}
theorem two_readyL {i j : Nat} {oi oj : Oper} {fuel : Nat} {listed : Array Bool} {a : Act} {w : World} (hi : ops.toList[i]? = some oi) (hj : ops.toList[j]? = some oj) (hr : Region.ready md ops listed = [i, j])
    (hwi : Region.wanted oi (yielded ops a.tmps) = true) (hwj : Region.wanted oj (yielded ops a.tmps) = true)
    (h1 : ∀ K' : Act → World → Prop, Shut (∀ a w, S w → (S w → wpAnyH P md ops Q S fuel (listed.setIfInBounds i true) a w) → K' a w) → Oper.wp P oi a w K' Q)
    (h2 : ∀ K' : Act → World → Prop, Shut (∀ a w, S w → (S w → wpAnyH P md ops Q S fuel (listed.setIfInBounds j true) a w) → K' a w) → Oper.wp P oj a w K' Q) : wpAnyH P md ops Q S (fuel + 1) listed a w :=
  wpAnyH_ready hr (by simp) (AllReadyH.cons (at_list hi) (fun K hK => by rw [if_pos hwi]; exact h1 K hK) (AllReadyH.cons (at_list hj) (fun K hK => by rw [if_pos hwj]; exact h2 K hK) AllReadyH.nil))
end

/-- What the box holds stays. -/
structure BoxKept (wr W W' : World) : Prop where
  cell : ∀ {o : Nat} {v : Value}, W.cell? ⟨wr.heap.size, o, none⟩ = some v → W'.cell? ⟨wr.heap.size, o, none⟩ = some v
  size : W.heap.size ≤ W'.heap.size
theorem cells_kept {wr W W1 W2 : World} {row : Option Nat} (h : Aft W W1) (hg : W1.grownBy W2 row) (hr : ∀ r, row = some r → r < wr.heap.size) : BoxKept wr W W2 :=
  ⟨fun {o _} hc => (World.cell?_of_block (w := W1) (a := ⟨wr.heap.size, o, none⟩) (hg.block _ (World.block_lt_of_cell? W1 _ (h.cell hc)) (fun e => absurd (hr wr.heap.size e.symm) (Nat.lt_irrefl _)))).trans (h.cell hc), Nat.le_trans h.size hg.size⟩
theorem cells_kept2 {wr W W1 W2 : World} {row : Option Nat} (h : BoxKept wr W W1) (hg : W1.grownBy W2 row) (hr : ∀ r, row = some r → r < wr.heap.size) : BoxKept wr W W2 :=
  ⟨fun {o _} hc => (World.cell?_of_block (w := W1) (a := ⟨wr.heap.size, o, none⟩) (hg.block _ (World.block_lt_of_cell? W1 _ (h.cell hc)) (fun e => absurd (hr wr.heap.size e.symm) (Nat.lt_irrefl _)))).trans (h.cell hc), Nat.le_trans h.size hg.size⟩

theorem zeroLs (w : World) : (zeroValue 27).run Tryd.prog w = .ok (.slice none 0 0) w := by kernel_rfl
theorem run_makeMapL (w : World) : (Instr.makeMap 56 none).run Tryd.prog w = .ok (.map (some w.heap.size)) (w.alloc (.map #[] 0)) := by
  kernel_rfl

/-- What byStem leaves. -/
def StemPost (w : World) (xs : List Lx) (e : Ending) (w' : World) : Prop := (∃ D val, e = .returned (.map (some w.heap.size)) ∧ Gm w' w.heap.size w.heap.size xs.length xs D val) ∧ Aft w w'

theorem grp_le (xs : List Lx) (s : ByteArray) : (grp xs s).length ≤ xs.length := List.length_filter_le _ _

set_option maxRecDepth 100000 in
set_option maxHeartbeats 1600000 in
theorem byStem_any (A : Option Addr) (n c : Nat) (xs : List Lx) (w : World) (ha : Ls w A n c xs) (hsz : n ≤ 4294967296) :
    Calls Tryd.prog 32 #[.slice A n c] w (StemPost w xs) := by
  have hn := ha.max
  have hnc := ha.le
  have hcm := ha.cmax
  have hlen := Lib.hid ha.len
  have hmm := run_makeMapL
  obtain ⟨i0, hi, hz0, hz1, hz2⟩ := info_parts Tryd.infoL
  go_enter Tryd.func32, Tryd.ntmps32
  go_wp2
  go_loopw [9] (fun i wr => ∃ k D val, k ≤ n ∧ i = .int .i64 (k : Nat) ∧ Gm wr w.heap.size w.heap.size k (xs.take k) D val ∧ Aft w wr) (fun i _ => n - (intOf i).toNat)
  case atStart => exact ⟨0, _, _, Nat.zero_le _, rfl, Gm.made w, (Aft.refl _).alloc _⟩
  case round =>
    obtain ⟨k, D, val, hk, rfl, hgm, haf⟩ := hrel
    have HG := Lib.hid hgm
    clear hgm
    by_cases hlt : k < n
    · obtain ⟨b, off, x, rfl, hx, h5, hlw⟩ := ha.at_ hlt
      obtain ⟨c0, c1, c2, c3, c4⟩ := h5.aft haf
      have hws := hlw.wstem
      have HX := Lib.hid hx
      have hng := grp_le (xs.take k) x.stem
      rw [List.length_take] at hng
      obtain ⟨ng, hngE⟩ : ∃ ng, ng = (grp (xs.take k) x.stem).length := ⟨_, rfl⟩
      have HNG := Lib.hid hngE
      have hng8 : ng ≤ 4294967296 := by omega
      obtain ⟨va, vc, hv⟩ := HG.out.raw x.stem
      rw [← hngE] at hv
      have HV := Lib.hid hv
      clear hx h5 hlw hng hngE
      have hA0 := (Aft.refl wr).alloc (.cells #[.string x.id, .string x.cat, .string x.stem, .string x.par, .slice x.fa x.fn x.fc] 24)
      have HA := Lib.hid (haf.trans hA0)
      have G0 := Lib.hid ((HG.out.aft hA0).aft (Aft.refl _).drew)
      have l0 := G0.out.look Tryd.underlying56 (zeroLs _) hws
      rw [hv] at l0
      have hA1 := ((Aft.refl (wr.alloc (.cells #[.string x.id, .string x.cat, .string x.stem, .string x.par, .slice x.fa x.fn x.fc] 24))).drew).alloc (.cells #[.string x.id, .string x.cat, .string x.stem, .string x.par, .slice x.fa x.fn x.fc] 24)
      have GA := Lib.hid (show Gm _ _ _ _ _ _ _ ∧ _ ∧ True from ⟨(HG.out.aft hA0).aft hA1, (((HG.out.aft hA0).aft hA1).row x.stem), trivial⟩)
      have l1 := ((HG.out.aft hA0).aft (((Aft.refl (wr.alloc (.cells #[.string x.id, .string x.cat, .string x.stem, .string x.par, .slice x.fa x.fn x.fc] 24))).alloc (.cells #[.string x.id, .string x.cat, .string x.stem, .string x.par, .slice x.fa x.fn x.fc] 24)).drew)).look Tryd.underlying56 (zeroLs _) hws
      rw [hv] at l1
      rw [hv, ← HNG.out] at GA
      clear hv hA0 hA1 hmm
      obtain ⟨d0, d1, d2, d3, d4⟩ := five_new wr x 24
      simp only [Nat.zero_add] at d1 d2 d3 d4
      go_wp2
      refine wp_region_held_drew (S := fun w' => w'.cell? ⟨wr.heap.size, 0, none⟩ = some (.string x.id) ∧ w'.cell? ⟨wr.heap.size, 1, none⟩ = some (.string x.cat) ∧ w'.cell? ⟨wr.heap.size, 2, none⟩ = some (.string x.stem) ∧ w'.cell? ⟨wr.heap.size, 3, none⟩ = some (.string x.par) ∧ w'.cell? ⟨wr.heap.size, 4, none⟩ = some (.slice x.fa x.fn x.fc)) (by kernel_rfl) ⟨d0, d1, d2, d3, d4⟩ (fun hHeld => ?_)
      refine take_on (i := 0) (v := ?v1015) rfl (by kernel_rfl) (by kernel_rfl) (by kernel_rfl) (fun _ _ _ h => h) (by rfl) (by assumption) ?y1015 ?_
      case y1015 => (intro w hSw; (try dsimp only at hSw); go_simp; (try with_reducible rfl))
      try simp only [Act.put, List.setIfInBounds_toArray, List.set_cons_zero, List.set_cons_succ]
      refine take_on (i := 1) (v := ?v1016) rfl (by kernel_rfl) (by kernel_rfl) (by kernel_rfl) (fun _ _ _ h => h) (by rfl) (by assumption) ?y1016 ?_
      case y1016 => (intro w hSw; (try dsimp only at hSw); go_simp; (try with_reducible rfl))
      try simp only [Act.put, List.setIfInBounds_toArray, List.set_cons_zero, List.set_cons_succ]
      refine take_on (i := 2) (v := ?v1017) rfl (by kernel_rfl) (by kernel_rfl) (by kernel_rfl) (fun _ _ _ h => h) (by rfl) (by assumption) ?y1017 ?_
      case y1017 => (intro w hSw; (try dsimp only at hSw); go_simp; (try with_reducible rfl))
      try simp only [Act.put, List.setIfInBounds_toArray, List.set_cons_zero, List.set_cons_succ]
      refine take_on (i := 3) (v := ?v1018) rfl (by kernel_rfl) (by kernel_rfl) (by kernel_rfl) (fun _ _ _ h => h) (by rfl) (by assumption) ?y1018 ?_
      case y1018 => (intro w hSw; (try dsimp only at hSw); go_simp; (try with_reducible rfl))
      try simp only [Act.put, List.setIfInBounds_toArray, List.set_cons_zero, List.set_cons_succ]
      refine take_on (i := 4) (v := ?v1019) rfl (by kernel_rfl) (by kernel_rfl) (by kernel_rfl) (fun _ _ _ h => h) (by rfl) (by assumption) ?y1019 ?_
      case y1019 => (intro w hSw; (try dsimp only at hSw); go_simp; (try with_reducible rfl))
      try simp only [Act.put, List.setIfInBounds_toArray, List.set_cons_zero, List.set_cons_succ]
      refine take_on (i := 5) (v := ?v1020) rfl (by kernel_rfl) (by kernel_rfl) (by kernel_rfl) (fun _ _ _ h => h) (by rfl) (by assumption) ?y1020 ?_
      case y1020 => (intro w hSw; (try dsimp only at hSw); go_simp; (try with_reducible rfl))
      try simp only [Act.put, List.setIfInBounds_toArray, List.set_cons_zero, List.set_cons_succ]
      refine take_on (i := 7) (v := ?v1021) rfl (by kernel_rfl) (by kernel_rfl) (by kernel_rfl) (fun _ _ _ h => h) (by rfl) (by assumption) ?y1021 ?_
      case y1021 => (intro w hSw; (try dsimp only at hSw); go_simp; (try with_reducible rfl))
      try simp only [Act.put, List.setIfInBounds_toArray, List.set_cons_zero, List.set_cons_succ]
      have AB := ((Aft.refl (wr.alloc (.cells #[.string x.id, .string x.cat, .string x.stem, .string x.par, .slice x.fa x.fn x.fc] 24))).drew).alloc (.cells #[.string x.id, .string x.cat, .string x.stem, .string x.par, .slice x.fa x.fn x.fc] 24)
      refine two_readyL (i := 6) (j := 8) rfl rfl (by kernel_rfl) (by rfl) (by rfl) (fun K hK => ?_) (fun K hK => ?_)
      · go_simp
        refine hK.out _ _ (⟨d0, d1, d2, d3, d4⟩) (fun hHeld => ?_)
        clear hK K
        try simp only [Act.put, List.setIfInBounds_toArray, List.set_cons_zero, List.set_cons_succ]
        refine one_ready (i := 8) rfl (by kernel_rfl) (by rfl) (fun K hK => ?_)
        go_simp
        refine hK.out _ _ (⟨AB.cell d0, AB.cell d1, AB.cell d2, AB.cell d3, AB.cell d4⟩) (fun hHeld => ?_)
        clear hK K
        try simp only [Act.put, List.setIfInBounds_toArray, List.set_cons_zero, List.set_cons_succ]
        refine one_ready (i := 9) rfl (by kernel_rfl) (by rfl) (fun K hK => ?_)
        refine wp_append_cap (.tmp 19) (.tmp 21) 27 rfl w.heap.size 24 i0 _ 5 88 Tryd.underlying27 hi hz0 hz1 hz2 rfl (by decide) _ ng _ rfl (GA.out.2.1) ⟨wr.heap.size + 1, 0, none⟩ 1 1 (flatL [x]) rfl rfl (one_cellsL _ x _ (by simp)) (flatL_one _) (by omega) (by unfold maxLen; omega) (by omega) (by have := haf.size; simp; omega) ?_
        intro v' w3 own3 grow3 hat3
        obtain ⟨g3, c3, rfl⟩ := row_shape own3
        have hs3 := grow3.size
        have A3x := cells_kept (wr := wr) AB grow3 (fun r hr => by rw [← HV.out] at hr; exact ((HG.out.row x.stem).lt r hr).2)
        have A3 := ((HA.out.drew).alloc _).grown grow3 (fun r hr => by rw [← HV.out] at hr; exact ((GA.out.1.row x.stem).lt r hr).1)
        have hm3 := GA.out.1.own.kept grow3 (by rw [← HV.out]; exact row_notmap (GA.out.1.row x.stem) GA.out.1.own)
        try go_simp
        refine hK.out _ _ (⟨A3x.cell d0, A3x.cell d1, A3x.cell d2, A3x.cell d3, A3x.cell d4⟩) (fun hHeld => ?_)
        clear hK K
        try simp only [Act.put, List.setIfInBounds_toArray, List.set_cons_zero, List.set_cons_succ]
        refine one_ready (i := 10) rfl (by kernel_rfl) (by rfl) (fun K hK => ?_)
        refine wp_mapUpdate_own (.tmp 13) (.tmp 15) (.tmp 22) 56 rfl 9 27 lawKs Tryd.underlying56 rawS w.heap.size k D rfl hm3 (by unfold maxLen; omega) (.string x.stem) _ (keyL x.stem) rfl rfl (keyOf_string_mk Tryd.underlying9 hws) _ [] rfl ?_
        intro w4 own4 grow4
        have A4x := cells_kept2 (wr := wr) A3x grow4 (fun r hr => by cases hr; exact HG.out.own.lt)
        have A4 := A3.grown grow4 (fun r hr => by cases hr; exact Nat.le_refl _)
        have G4 := Lib.hid (GA.out.1.push x (v' := .slice (some ⟨g3, 0, none⟩) (ng + 1) c3) (by rw [← HNG.out]; exact own3) (by rw [HV.out]; exact grow3) (by rw [HV.out, ← HNG.out]; exact hat3) own4 grow4)
        refine hK.out _ _ (⟨A4x.cell d0, A4x.cell d1, A4x.cell d2, A4x.cell d3, A4x.cell d4⟩) (fun hHeld => ?_)
        clear hK K
        try simp only [Act.put]
        refine wpAnyH_done (by kernel_rfl) ?_ _
        go_wp2
        go_roundw
        case rel => exact ⟨k + 1, _, _, by omega, by go_num, by rw [take_next HX.out]; exact G4.out, A4⟩
        case measure => simp [intOf]; omega
      · go_simp
        refine hK.out _ _ (⟨AB.cell d0, AB.cell d1, AB.cell d2, AB.cell d3, AB.cell d4⟩) (fun hHeld => ?_)
        clear hK K
        try simp only [Act.put, List.setIfInBounds_toArray, List.set_cons_zero, List.set_cons_succ]
        refine one_ready (i := 6) rfl (by kernel_rfl) (by rfl) (fun K hK => ?_)
        go_simp
        refine hK.out _ _ (⟨AB.cell d0, AB.cell d1, AB.cell d2, AB.cell d3, AB.cell d4⟩) (fun hHeld => ?_)
        clear hK K
        try simp only [Act.put, List.setIfInBounds_toArray, List.set_cons_zero, List.set_cons_succ]
        refine one_ready (i := 9) rfl (by kernel_rfl) (by rfl) (fun K hK => ?_)
        refine wp_append_cap (.tmp 19) (.tmp 21) 27 rfl w.heap.size 24 i0 _ 5 88 Tryd.underlying27 hi hz0 hz1 hz2 rfl (by decide) _ ng _ rfl (GA.out.2.1) ⟨wr.heap.size + 1, 0, none⟩ 1 1 (flatL [x]) rfl rfl (one_cellsL _ x _ (by simp)) (flatL_one _) (by omega) (by unfold maxLen; omega) (by omega) (by have := haf.size; simp; omega) ?_
        intro v' w3 own3 grow3 hat3
        obtain ⟨g3, c3, rfl⟩ := row_shape own3
        have hs3 := grow3.size
        have A3x := cells_kept (wr := wr) AB grow3 (fun r hr => by rw [← HV.out] at hr; exact ((HG.out.row x.stem).lt r hr).2)
        have A3 := ((HA.out.drew).alloc _).grown grow3 (fun r hr => by rw [← HV.out] at hr; exact ((GA.out.1.row x.stem).lt r hr).1)
        have hm3 := GA.out.1.own.kept grow3 (by rw [← HV.out]; exact row_notmap (GA.out.1.row x.stem) GA.out.1.own)
        try go_simp
        refine hK.out _ _ (⟨A3x.cell d0, A3x.cell d1, A3x.cell d2, A3x.cell d3, A3x.cell d4⟩) (fun hHeld => ?_)
        clear hK K
        try simp only [Act.put, List.setIfInBounds_toArray, List.set_cons_zero, List.set_cons_succ]
        refine one_ready (i := 10) rfl (by kernel_rfl) (by rfl) (fun K hK => ?_)
        refine wp_mapUpdate_own (.tmp 13) (.tmp 15) (.tmp 22) 56 rfl 9 27 lawKs Tryd.underlying56 rawS w.heap.size k D rfl hm3 (by unfold maxLen; omega) (.string x.stem) _ (keyL x.stem) rfl rfl (keyOf_string_mk Tryd.underlying9 hws) _ [] rfl ?_
        intro w4 own4 grow4
        have A4x := cells_kept2 (wr := wr) A3x grow4 (fun r hr => by cases hr; exact HG.out.own.lt)
        have A4 := A3.grown grow4 (fun r hr => by cases hr; exact Nat.le_refl _)
        have G4 := Lib.hid (GA.out.1.push x (v' := .slice (some ⟨g3, 0, none⟩) (ng + 1) c3) (by rw [← HNG.out]; exact own3) (by rw [HV.out]; exact grow3) (by rw [HV.out, ← HNG.out]; exact hat3) own4 grow4)
        refine hK.out _ _ (⟨A4x.cell d0, A4x.cell d1, A4x.cell d2, A4x.cell d3, A4x.cell d4⟩) (fun hHeld => ?_)
        clear hK K
        try simp only [Act.put]
        refine wpAnyH_done (by kernel_rfl) ?_ _
        go_wp2
        go_roundw
        case rel => exact ⟨k + 1, _, _, by omega, by go_num, by rw [take_next HX.out]; exact G4.out, A4⟩
        case measure => simp [intOf]; omega
    · obtain rfl : k = n := by omega
      have HR := Lib.hid (show Gm wr w.heap.size w.heap.size xs.length xs D val by
        have := HG.out
        rw [List.take_of_length_le (by rw [hlen.out]; exact Nat.le_refl _)] at this
        rw [hlen.out]; exact this)
      go_wp2
      go_ret
      exact ⟨⟨_, _, rfl, HR.out⟩, haf⟩
end Go.Proofs.YtpkhoklahcgcoaaDoor
