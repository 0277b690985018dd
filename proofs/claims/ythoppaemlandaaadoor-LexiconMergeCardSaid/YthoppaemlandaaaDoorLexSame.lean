/-
  The reference's Same and SameAll: whether two lexemes, two lists of lexemes say the same. Condition: the slices hold the lexemes.
-/
import Derived.Test.YthoppaemlandaaaDoorLexFind
import Derived.Test.YthoppaemlandaaaDoorRegion
namespace Go.Proofs.YthoppaemlandaaaDoor
open Go.RowKit
open FeatPlain

instance sayEq : DecidableEq Lxp := fun a b =>
  decidable_of_iff (a.1 = b.1 ∧ a.2.1 = b.2.1 ∧ a.2.2.1 = b.2.2.1 ∧ a.2.2.2.1 = b.2.2.2.1 ∧ a.2.2.2.2 = b.2.2.2.2) (by
    obtain ⟨a0, a1, a2, a3, a4⟩ := a
    obtain ⟨b0, b1, b2, b3, b4⟩ := b
    simp [Prod.mk.injEq])

set_option maxRecDepth 100000 in
set_option maxHeartbeats 3200000 in
theorem sameL_any (x y : Lx) (w : World) (hx : Lw w x) (hy : Lw w y) : Calls Tryd.prog 20 #[.agg #[.string x.id, .string x.cat, .string x.stem, .string x.par, .slice x.fa x.fn x.fc], .agg #[.string y.id, .string y.cat, .string y.stem, .string y.par, .slice y.fa y.fn y.fc]] w (BoolPost w (decide (x.say = y.say))) := by
  have A0 := ((Aft.refl w).alloc (.cells #[.string x.id, .string x.cat, .string x.stem, .string x.par, .slice x.fa x.fn x.fc] 27)).alloc (.cells #[.string y.id, .string y.cat, .string y.stem, .string y.par, .slice y.fa y.fn y.fc] 27)
  have q0 := toList_beq x.id y.id
  have q1 := toList_beq x.cat y.cat
  have q2 := toList_beq x.stem y.stem
  have q3 := toList_beq x.par y.par
  have d0 := (five_new w x 27).aft ((Aft.refl (w.alloc (.cells #[.string x.id, .string x.cat, .string x.stem, .string x.par, .slice x.fa x.fn x.fc] 27))).alloc (.cells #[.string y.id, .string y.cat, .string y.stem, .string y.par, .slice y.fa y.fn y.fc] 27))
  have hS := same_any x.fa x.fn x.fc x.fs y.fa y.fn y.fc y.fs _ (hx.fts.aft A0) (hy.fts.aft A0)
  have HS := Lib.hid hS
  clear hS
  by_cases h0 : x.id = y.id
  · rw [decide_eq_true h0] at q0
    by_cases h1 : x.cat = y.cat
    · rw [decide_eq_true h1] at q1
      by_cases h2 : x.stem = y.stem
      · rw [decide_eq_true h2] at q2
        by_cases h3 : x.par = y.par
        · rw [decide_eq_true h3] at q3
          have HR := Lib.hid (show decide (x.say = y.say) = decide (x.fs = y.fs) by simp [Lx.say, h0, h1, h2, h3])
          clear h0 h1 h2 h3
          go_enter Tryd.func20, Tryd.ntmps20
          go_wp2_with fail
          refine HS.out.mono ?_
          rintro e w1 ⟨rfl, q, rfl⟩
          go_wp2
          go_ret
          exact ⟨by rw [HR.out]; rfl, A0.drewN q⟩
        · rw [decide_eq_false h3] at q3
          have HR := Lib.hid (show decide (x.say = y.say) = false by simp [Lx.say, h3])
          clear h0 h1 h2 h3 HS
          go_enter Tryd.func20, Tryd.ntmps20
          go_wp2
          go_ret
          exact ⟨by rw [HR.out]; rfl, A0⟩
      · rw [decide_eq_false h2] at q2
        have HR := Lib.hid (show decide (x.say = y.say) = false by simp [Lx.say, h2])
        clear h0 h1 h2 HS
        go_enter Tryd.func20, Tryd.ntmps20
        go_wp2
        go_ret
        exact ⟨by rw [HR.out]; rfl, A0⟩
    · rw [decide_eq_false h1] at q1
      have HR := Lib.hid (show decide (x.say = y.say) = false by simp [Lx.say, h1])
      clear h0 h1 HS
      go_enter Tryd.func20, Tryd.ntmps20
      go_wp2
      go_ret
      exact ⟨by rw [HR.out]; rfl, A0⟩
  · rw [decide_eq_false h0] at q0
    have HR := Lib.hid (show decide (x.say = y.say) = false by simp [Lx.say, h0])
    clear h0 HS
    go_enter Tryd.func20, Tryd.ntmps20
    go_wp2
    go_ret
    exact ⟨by rw [HR.out]; rfl, A0⟩

set_option maxRecDepth 100000 in
set_option maxHeartbeats 1600000 in
theorem sameAllL_any (A : Option Addr) (n c : Nat) (xs : List Lx) (B : Option Addr) (m d : Nat) (ys : List Lx) (w : World) (ha : Ls w A n c xs) (hb : Ls w B m d ys) :
    Calls Tryd.prog 24 #[.slice A n c, .slice B m d] w (BoolPost w (decide (xs.map Lx.say = ys.map Lx.say))) := by
  have hnc := ha.le
  have hmd := hb.le
  have hcm := ha.cmax
  have hdm := hb.cmax
  have hlen := Lib.hid ha.len
  have hlenb := Lib.hid hb.len
  by_cases hnm : n = m
  · subst hnm
    go_enter Tryd.func24, Tryd.ntmps24
    go_wp2
    go_loopw [13] (fun i wr => ∃ k, k ≤ n ∧ i = .int .i64 (k : Nat) ∧ (xs.take k).map Lx.say = (ys.take k).map Lx.say ∧ Aft w wr) (fun i _ => n - (intOf i).toNat)
    case atStart => exact ⟨0, Nat.zero_le _, rfl, by simp, Aft.refl _⟩
    case round =>
      obtain ⟨k, hk, rfl, he, haf⟩ := hrel
      have HE := Lib.hid he
      clear he
      by_cases hlt : k < n
      · obtain ⟨b1, o1, x, rfl, hx, f1, l1⟩ := ha.at_ hlt
        obtain ⟨b2, o2, y, rfl, hy, f2, l2⟩ := hb.at_ hlt
        obtain ⟨c0, c1, c2, c3, c4⟩ := f1.aft haf
        obtain ⟨d0, d1, d2, d3, d4⟩ := f2.aft haf
        have HX := Lib.hid hx
        have HY := Lib.hid hy
        have L1 := Lib.hid l1
        have L2 := Lib.hid l2
        clear hx hy f1 f2 l1 l2
        by_cases hh : x.say = y.say
        · have HN := Lib.hid (show (xs.take (k + 1)).map Lx.say = (ys.take (k + 1)).map Lx.say by rw [take_next HX.out, take_next HY.out, List.map_append, List.map_append, HE.out]; simp [hh])
          have HD := Lib.hid (decide_eq_true hh)
          clear hh
          go_wp2
          refine wp_region_held_drew (S := fun w' => (w'.cell? ⟨b1, o1 + k * 5, none⟩ = some (.string x.id) ∧ w'.cell? ⟨b1, o1 + k * 5 + 1, none⟩ = some (.string x.cat) ∧ w'.cell? ⟨b1, o1 + k * 5 + 2, none⟩ = some (.string x.stem) ∧ w'.cell? ⟨b1, o1 + k * 5 + 3, none⟩ = some (.string x.par) ∧ w'.cell? ⟨b1, o1 + k * 5 + 4, none⟩ = some (.slice x.fa x.fn x.fc)) ∧ w'.cell? ⟨b2, o2 + k * 5, none⟩ = some (.string y.id) ∧ w'.cell? ⟨b2, o2 + k * 5 + 1, none⟩ = some (.string y.cat) ∧ w'.cell? ⟨b2, o2 + k * 5 + 2, none⟩ = some (.string y.stem) ∧ w'.cell? ⟨b2, o2 + k * 5 + 3, none⟩ = some (.string y.par) ∧ w'.cell? ⟨b2, o2 + k * 5 + 4, none⟩ = some (.slice y.fa y.fn y.fc)) (by kernel_rfl) (⟨⟨c0, c1, c2, c3, c4⟩, d0, d1, d2, d3, d4⟩) (fun hHeld => ?_)
          refine take_on (i := 0) (v := ?v1) rfl (by kernel_rfl) (by kernel_rfl) (by kernel_rfl) (fun _ _ _ h => h) (by rfl) (by assumption) ?y1 ?_
          case y1 => (intro w hSw; (try dsimp only at hSw); go_simp; (try with_reducible rfl))
          try simp only [Act.put, List.setIfInBounds_toArray, List.set_cons_zero, List.set_cons_succ]
          refine take_on (i := 1) (v := ?v2) rfl (by kernel_rfl) (by kernel_rfl) (by kernel_rfl) (fun _ _ _ h => h) (by rfl) (by assumption) ?y2 ?_
          case y2 => (intro w hSw; (try dsimp only at hSw); go_simp; (try with_reducible rfl))
          try simp only [Act.put, List.setIfInBounds_toArray, List.set_cons_zero, List.set_cons_succ]
          refine take_on (i := 2) (v := ?v3) rfl (by kernel_rfl) (by kernel_rfl) (by kernel_rfl) (fun _ _ _ h => h) (by rfl) (by assumption) ?y3 ?_
          case y3 => (intro w hSw; (try dsimp only at hSw); go_simp; (try with_reducible rfl))
          try simp only [Act.put, List.setIfInBounds_toArray, List.set_cons_zero, List.set_cons_succ]
          refine take_on (i := 3) (v := ?v4) rfl (by kernel_rfl) (by kernel_rfl) (by kernel_rfl) (fun _ _ _ h => h) (by rfl) (by assumption) ?y4 ?_
          case y4 => (intro w hSw; (try dsimp only at hSw); go_simp; (try with_reducible rfl))
          try simp only [Act.put, List.setIfInBounds_toArray, List.set_cons_zero, List.set_cons_succ]
          refine take_on (i := 4) (v := ?v5) rfl (by kernel_rfl) (by kernel_rfl) (by kernel_rfl) (fun _ _ _ h => h) (by rfl) (by assumption) ?y5 ?_
          case y5 => (intro w hSw; (try dsimp only at hSw); go_simp; (try with_reducible rfl))
          try simp only [Act.put, List.setIfInBounds_toArray, List.set_cons_zero, List.set_cons_succ]
          refine take_on (i := 5) (v := ?v6) rfl (by kernel_rfl) (by kernel_rfl) (by kernel_rfl) (fun _ _ _ h => h) (by rfl) (by assumption) ?y6 ?_
          case y6 => (intro w hSw; (try dsimp only at hSw); go_simp; (try with_reducible rfl))
          try simp only [Act.put, List.setIfInBounds_toArray, List.set_cons_zero, List.set_cons_succ]
          refine take_on (i := 6) (v := ?v7) rfl (by kernel_rfl) (by kernel_rfl) (by kernel_rfl) (fun _ _ _ h => h) (by rfl) (by assumption) ?y7 ?_
          case y7 => (intro w hSw; (try dsimp only at hSw); go_simp; (try with_reducible rfl))
          try simp only [Act.put, List.setIfInBounds_toArray, List.set_cons_zero, List.set_cons_succ]
          refine take_on (i := 7) (v := ?v8) rfl (by kernel_rfl) (by kernel_rfl) (by kernel_rfl) (fun _ _ _ h => h) (by rfl) (by assumption) ?y8 ?_
          case y8 => (intro w hSw; (try dsimp only at hSw); go_simp; (try with_reducible rfl))
          try simp only [Act.put, List.setIfInBounds_toArray, List.set_cons_zero, List.set_cons_succ]
          refine one_ready (i := 8) rfl (by kernel_rfl) (by rfl) (fun K hK => ?_)
          go_simp
          have hSM := sameL_any x y wr.drew (L1.out.aft haf.drew) (L2.out.aft haf.drew)
          rw [HD.out] at hSM
          refine hSM.mono ?_
          rintro e w2 ⟨rfl, hA2⟩
          have A2 : Aft wr w2 := (Aft.refl wr).drew.trans hA2
          have AK := haf.trans A2
          clear hSM
          try go_simp
          refine hK.out _ _ (⟨⟨A2.cell c0, A2.cell c1, A2.cell c2, A2.cell c3, A2.cell c4⟩, A2.cell d0, A2.cell d1, A2.cell d2, A2.cell d3, A2.cell d4⟩) (fun hHeld => ?_)
          clear hK K
          try simp only [Act.put, List.setIfInBounds_toArray, List.set_cons_zero, List.set_cons_succ]
          refine take_on (i := 9) (v := ?v10) rfl (by kernel_rfl) (by kernel_rfl) (by kernel_rfl) (fun _ _ _ h => h) (by rfl) (by assumption) ?y10 ?_
          case y10 => (intro w hSw; (try dsimp only at hSw); go_simp; (try with_reducible rfl))
          try simp only [Act.put, List.setIfInBounds_toArray, List.set_cons_zero, List.set_cons_succ]
          refine wpAnyH_done (by kernel_rfl) ?_ _
          go_wp2
          go_roundw
          case rel => exact ⟨k + 1, by omega, by go_num, HN.out, AK⟩
          case measure => simp [intOf]; omega
        · have HR := Lib.hid (show decide (xs.map Lx.say = ys.map Lx.say) = false by
            rw [decide_eq_false_iff_not]
            intro e
            have h1 : (xs.map Lx.say)[k]? = some x.say := by rw [List.getElem?_map, HX.out]; rfl
            rw [e, List.getElem?_map, HY.out] at h1
            exact hh (Option.some.inj h1).symm)
          have HD := Lib.hid (decide_eq_false hh)
          clear hh
          go_wp2
          refine wp_region_held_drew (S := fun w' => (w'.cell? ⟨b1, o1 + k * 5, none⟩ = some (.string x.id) ∧ w'.cell? ⟨b1, o1 + k * 5 + 1, none⟩ = some (.string x.cat) ∧ w'.cell? ⟨b1, o1 + k * 5 + 2, none⟩ = some (.string x.stem) ∧ w'.cell? ⟨b1, o1 + k * 5 + 3, none⟩ = some (.string x.par) ∧ w'.cell? ⟨b1, o1 + k * 5 + 4, none⟩ = some (.slice x.fa x.fn x.fc)) ∧ w'.cell? ⟨b2, o2 + k * 5, none⟩ = some (.string y.id) ∧ w'.cell? ⟨b2, o2 + k * 5 + 1, none⟩ = some (.string y.cat) ∧ w'.cell? ⟨b2, o2 + k * 5 + 2, none⟩ = some (.string y.stem) ∧ w'.cell? ⟨b2, o2 + k * 5 + 3, none⟩ = some (.string y.par) ∧ w'.cell? ⟨b2, o2 + k * 5 + 4, none⟩ = some (.slice y.fa y.fn y.fc)) (by kernel_rfl) (⟨⟨c0, c1, c2, c3, c4⟩, d0, d1, d2, d3, d4⟩) (fun hHeld => ?_)
          refine take_on (i := 0) (v := ?v11) rfl (by kernel_rfl) (by kernel_rfl) (by kernel_rfl) (fun _ _ _ h => h) (by rfl) (by assumption) ?y11 ?_
          case y11 => (intro w hSw; (try dsimp only at hSw); go_simp; (try with_reducible rfl))
          try simp only [Act.put, List.setIfInBounds_toArray, List.set_cons_zero, List.set_cons_succ]
          refine take_on (i := 1) (v := ?v12) rfl (by kernel_rfl) (by kernel_rfl) (by kernel_rfl) (fun _ _ _ h => h) (by rfl) (by assumption) ?y12 ?_
          case y12 => (intro w hSw; (try dsimp only at hSw); go_simp; (try with_reducible rfl))
          try simp only [Act.put, List.setIfInBounds_toArray, List.set_cons_zero, List.set_cons_succ]
          refine take_on (i := 2) (v := ?v13) rfl (by kernel_rfl) (by kernel_rfl) (by kernel_rfl) (fun _ _ _ h => h) (by rfl) (by assumption) ?y13 ?_
          case y13 => (intro w hSw; (try dsimp only at hSw); go_simp; (try with_reducible rfl))
          try simp only [Act.put, List.setIfInBounds_toArray, List.set_cons_zero, List.set_cons_succ]
          refine take_on (i := 3) (v := ?v14) rfl (by kernel_rfl) (by kernel_rfl) (by kernel_rfl) (fun _ _ _ h => h) (by rfl) (by assumption) ?y14 ?_
          case y14 => (intro w hSw; (try dsimp only at hSw); go_simp; (try with_reducible rfl))
          try simp only [Act.put, List.setIfInBounds_toArray, List.set_cons_zero, List.set_cons_succ]
          refine take_on (i := 4) (v := ?v15) rfl (by kernel_rfl) (by kernel_rfl) (by kernel_rfl) (fun _ _ _ h => h) (by rfl) (by assumption) ?y15 ?_
          case y15 => (intro w hSw; (try dsimp only at hSw); go_simp; (try with_reducible rfl))
          try simp only [Act.put, List.setIfInBounds_toArray, List.set_cons_zero, List.set_cons_succ]
          refine take_on (i := 5) (v := ?v16) rfl (by kernel_rfl) (by kernel_rfl) (by kernel_rfl) (fun _ _ _ h => h) (by rfl) (by assumption) ?y16 ?_
          case y16 => (intro w hSw; (try dsimp only at hSw); go_simp; (try with_reducible rfl))
          try simp only [Act.put, List.setIfInBounds_toArray, List.set_cons_zero, List.set_cons_succ]
          refine take_on (i := 6) (v := ?v17) rfl (by kernel_rfl) (by kernel_rfl) (by kernel_rfl) (fun _ _ _ h => h) (by rfl) (by assumption) ?y17 ?_
          case y17 => (intro w hSw; (try dsimp only at hSw); go_simp; (try with_reducible rfl))
          try simp only [Act.put, List.setIfInBounds_toArray, List.set_cons_zero, List.set_cons_succ]
          refine take_on (i := 7) (v := ?v18) rfl (by kernel_rfl) (by kernel_rfl) (by kernel_rfl) (fun _ _ _ h => h) (by rfl) (by assumption) ?y18 ?_
          case y18 => (intro w hSw; (try dsimp only at hSw); go_simp; (try with_reducible rfl))
          try simp only [Act.put, List.setIfInBounds_toArray, List.set_cons_zero, List.set_cons_succ]
          refine one_ready (i := 8) rfl (by kernel_rfl) (by rfl) (fun K hK => ?_)
          go_simp
          have hSM := sameL_any x y wr.drew (L1.out.aft haf.drew) (L2.out.aft haf.drew)
          rw [HD.out] at hSM
          refine hSM.mono ?_
          rintro e w2 ⟨rfl, hA2⟩
          have A2 : Aft wr w2 := (Aft.refl wr).drew.trans hA2
          have AK := haf.trans A2
          clear hSM
          try go_simp
          refine hK.out _ _ (⟨⟨A2.cell c0, A2.cell c1, A2.cell c2, A2.cell c3, A2.cell c4⟩, A2.cell d0, A2.cell d1, A2.cell d2, A2.cell d3, A2.cell d4⟩) (fun hHeld => ?_)
          clear hK K
          try simp only [Act.put, List.setIfInBounds_toArray, List.set_cons_zero, List.set_cons_succ]
          refine take_on (i := 9) (v := ?v20) rfl (by kernel_rfl) (by kernel_rfl) (by kernel_rfl) (fun _ _ _ h => h) (by rfl) (by assumption) ?y20 ?_
          case y20 => (intro w hSw; (try dsimp only at hSw); go_simp; (try with_reducible rfl))
          try simp only [Act.put, List.setIfInBounds_toArray, List.set_cons_zero, List.set_cons_succ]
          refine wpAnyH_done (by kernel_rfl) ?_ _
          go_wp2
          go_ret
          exact ⟨by rw [HR.out]; rfl, AK⟩
      · obtain rfl : k = n := by omega
        have HR := Lib.hid (show decide (xs.map Lx.say = ys.map Lx.say) = true by
          rw [decide_eq_true_iff]
          have := HE.out
          rwa [List.take_of_length_le (by rw [hlen.out]; exact Nat.le_refl _), List.take_of_length_le (by rw [hlenb.out]; exact Nat.le_refl _)] at this)
        go_wp2
        go_ret
        exact ⟨by rw [HR.out]; rfl, haf⟩
  · have hnm' : ¬ (n : Int) = (m : Int) := by omega
    have hnm2 : ((n : Int) != (m : Int)) = true := by rw [bne_iff_ne]; exact hnm'
    have HR := Lib.hid (show decide (xs.map Lx.say = ys.map Lx.say) = false by
      rw [decide_eq_false_iff_not]
      intro e
      have := congrArg List.length e
      rw [List.length_map, List.length_map, hlen.out, hlenb.out] at this
      exact hnm this)
    go_enter Tryd.func24, Tryd.ntmps24
    go_wp2
    go_ret
    exact ⟨by rw [HR.out]; rfl, Aft.refl _⟩
end Go.Proofs.YthoppaemlandaaaDoor
