/-
  The reference's Same and SameAll: whether two lexemes, two lists of lexemes say the same. Condition: the slices hold the lexemes.
-/
import Derived.Test.YtfoeghabnbjbgaaDoorLexFind
import Derived.Test.YtfoeghabnbjbgaaDoorFtAll
namespace Go.Proofs.YtfoeghabnbjbgaaDoor
open Go.RowKit
open FeatPlain

instance sayEq : DecidableEq Lxp := fun a b =>
  decidable_of_iff (a.1 = b.1 ∧ a.2.1 = b.2.1 ∧ a.2.2.1 = b.2.2.1 ∧ a.2.2.2.1 = b.2.2.2.1 ∧ a.2.2.2.2 = b.2.2.2.2) (by
    obtain ⟨a0, a1, a2, a3, a4⟩ := a
    obtain ⟨b0, b1, b2, b3, b4⟩ := b
    simp [Prod.mk.injEq])

set_option maxRecDepth 100000 in
set_option maxHeartbeats 3200000 in
theorem sameL_any (x y : Lx) (w : World) (hx : Lw w x) (hy : Lw w y) : Calls Tryd.prog 12 #[.agg #[.string x.id, .string x.cat, .string x.stem, .string x.par, .slice x.fa x.fn x.fc], .agg #[.string y.id, .string y.cat, .string y.stem, .string y.par, .slice y.fa y.fn y.fc]] w (BoolPost w (decide (x.say = y.say))) := by
  have A0 := ((Aft.refl w).alloc (.cells #[.string x.id, .string x.cat, .string x.stem, .string x.par, .slice x.fa x.fn x.fc] 30)).alloc (.cells #[.string y.id, .string y.cat, .string y.stem, .string y.par, .slice y.fa y.fn y.fc] 30)
  have q0 := toList_beq x.id y.id
  have q1 := toList_beq x.cat y.cat
  have q2 := toList_beq x.stem y.stem
  have q3 := toList_beq x.par y.par
  have d0 := (five_new w x 30).aft ((Aft.refl (w.alloc (.cells #[.string x.id, .string x.cat, .string x.stem, .string x.par, .slice x.fa x.fn x.fc] 30))).alloc (.cells #[.string y.id, .string y.cat, .string y.stem, .string y.par, .slice y.fa y.fn y.fc] 30))
  have hS := same_any x.fa x.fn x.fc x.fs y.fa y.fn y.fc y.fs _ (hx.fts.aft A0) (hy.fts.aft A0)
  have HS := Lib.hid hS
  clear hS
  by_cases h0 : x.id = y.id
  · rw [decide_eq_true h0] at q0
    by_cases h1 : x.cat = y.cat
    · rw [decide_eq_true h1] at q1
      by_cases h2 : x.stem = y.stem
      · rw [decide_eq_true h2] at q2
        by_cases h3 : x.par = y.par
        · rw [decide_eq_true h3] at q3
          have HR := Lib.hid (show decide (x.say = y.say) = decide (x.fs = y.fs) by simp [Lx.say, h0, h1, h2, h3])
          clear h0 h1 h2 h3
          go_enter Tryd.func12, Tryd.ntmps12
          go_wp2_with fail
          refine HS.out.mono ?_
          rintro e w1 ⟨rfl, q, rfl⟩
          go_wp2
          go_ret
          exact ⟨by rw [HR.out]; rfl, A0.drewN q⟩
        · rw [decide_eq_false h3] at q3
          have HR := Lib.hid (show decide (x.say = y.say) = false by simp [Lx.say, h3])
          clear h0 h1 h2 h3 HS
          go_enter Tryd.func12, Tryd.ntmps12
          go_wp2
          go_ret
          exact ⟨by rw [HR.out]; rfl, A0⟩
      · rw [decide_eq_false h2] at q2
        have HR := Lib.hid (show decide (x.say = y.say) = false by simp [Lx.say, h2])
        clear h0 h1 h2 HS
        go_enter Tryd.func12, Tryd.ntmps12
        go_wp2
        go_ret
        exact ⟨by rw [HR.out]; rfl, A0⟩
    · rw [decide_eq_false h1] at q1
      have HR := Lib.hid (show decide (x.say = y.say) = false by simp [Lx.say, h1])
      clear h0 h1 HS
      go_enter Tryd.func12, Tryd.ntmps12
      go_wp2
      go_ret
      exact ⟨by rw [HR.out]; rfl, A0⟩
  · rw [decide_eq_false h0] at q0
    have HR := Lib.hid (show decide (x.say = y.say) = false by simp [Lx.say, h0])
    clear h0 HS
    go_enter Tryd.func12, Tryd.ntmps12
    go_wp2
    go_ret
    exact ⟨by rw [HR.out]; rfl, A0⟩

end Go.Proofs.YtfoeghabnbjbgaaDoor
