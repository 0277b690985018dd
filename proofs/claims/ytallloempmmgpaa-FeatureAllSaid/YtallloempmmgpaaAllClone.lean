/-
  slices.Clone of strings and of dimensions, cloneDimensions. Conditions: the slices hold the strings and the dimensions, at most 8 and at most 4.
-/
import Derived.Test.YtallloempmmgpaaAllValid
import Derived.Lib.SliceRun
namespace Go.Proofs.Ytallloempmmgpaa
open Go.RowKit
open FeatPlain

theorem Ss.flatCells {w : World} {A : Option Addr} {n c : Nat} {ss : List ByteArray} (h : Ss w A n c ss) : ∀ ad, A = some ad → ∀ j u, (ss.map Value.string)[j]? = some u → w.cell? (ad.add j) = some u := by
  intro ad hA j u hj
  rw [List.getElem?_map] at hj
  obtain ⟨s, hs, rfl⟩ := Option.map_eq_some_iff.1 hj
  obtain ⟨b, off, hA', h1⟩ := h.cells j s hs
  rw [hA] at hA'
  cases hA'
  rw [Addr.add_lit]
  exact h1

set_option maxRecDepth 100000 in
set_option maxHeartbeats 800000 in
theorem cloneS_any (A : Option Addr) (n c : Nat) (ss : List ByteArray) (w : World) (ha : Ss w A n c ss) (hb : n ≤ 8) :
    Calls Try.prog 33 #[.slice A n c] w (fun e w' => ∃ v, e = .returned v ∧ w'.ownsRow w.heap.size 9 1 v n (ss.map Value.string) ∧ Aft w w') := by
  have hlen := Lib.hid ha.len
  obtain ⟨i0, hi, hz0, hz1, hz2⟩ := info_parts Try.infoS
  have qn : ∀ (w : World) (a : Option Addr) (n c n' c' : Nat), (binOp .eql 38 (.slice a n c) (.slice none n' c')).run Try.prog w = .ok (.bool a.isNone) w := fun w a n c n' c' => Lib.run_eql_slice_nil w _ _ a n c n' c' Try.underlying38
  cases A with
  | none =>
    obtain rfl : c = 0 := ha.nl rfl
    obtain rfl : n = 0 := by have := ha.le; omega
    have hx := Lib.hid (List.length_eq_zero_iff.1 hlen.out)
    go_enter Try.func33, Try.ntmps33
    go_wp2
    go_ret
    exact ⟨_, rfl, by rw [hx.out]; exact World.ownsRow_nil _ _ _ _, Aft.refl _⟩
  | some x =>
    have own0 : (w.alloc (.cells #[] 9)).ownsRow w.heap.size 9 1 (.slice (some ⟨w.heap.size, 0, none⟩) 0 0) 0 [] := World.ownsRow_lit w #[] 0 (Nat.le_refl _) (by unfold maxLen; omega) rfl
    go_enter Try.func33, Try.ntmps33
    go_wp2_with (at_builtin; refine wpList_append_any rfl _ _ 38 rfl w.heap.size 9 i0 _ 1 16 Try.underlying38 hi hz0 hz1 hz2 rfl (by decide) _ _ _ rfl own0 (some x) n c (ss.map Value.string) rfl (by rw [List.length_map, hlen.out]; omega) (fun e => by cases e) (ha.aft ((Aft.refl w).alloc _)).flatCells (by simp [Value.oneCell']) (by unfold maxLen; omega) (by omega) (by simp) ?_; intro v0 w1 own1 grow1)
    have own1' : w1.ownsRow w.heap.size 9 1 v0 n (ss.map Value.string) := by rw [Nat.zero_add, List.nil_append] at own1; exact own1
    have A1 : Aft w w1 := ((Aft.refl w).alloc _).grown grow1 (fun r hr => (own0.lt r hr).1)
    clear own0 own1 grow1
    go_wp2
    go_ret
    exact ⟨_, rfl, own1', A1⟩

theorem Try.infoDm : (Try.prog.info? 40).map (fun i => (i.zero, i.size, i.bytes)) = some (some (.agg #[.string ByteArray.empty, .slice none 0 0]), 2, 40) := by kernel_rfl
/-- The cells of dimensions, as values. -/
abbrev Dv := ByteArray × Value
def flatD : List Dv → List Value
  | [] => []
  | d :: ds => .string d.1 :: d.2 :: flatD ds
theorem flatD_length : ∀ l : List Dv, (flatD l).length = l.length * 2
  | [] => rfl
  | d :: l => by rw [flatD, List.length_cons, List.length_cons, flatD_length l, List.length_cons]; omega
theorem flatD_get : ∀ (l : List Dv) (i : Nat) (d : Dv), l[i]? = some d → (flatD l)[i * 2]? = some (.string d.1) ∧ (flatD l)[i * 2 + 1]? = some d.2
  | [], _, _, h => by simp at h
  | x :: l, 0, d, h => by simp at h; subst h; exact ⟨rfl, rfl⟩
  | x :: l, i + 1, d, h => by
    have := flatD_get l i d (by simpa using h)
    rw [flatD, show (i + 1) * 2 = i * 2 + 1 + 1 from by omega]
    exact this
theorem flatD_set : ∀ (l : List Dv) (i : Nat) (d : Dv) (v : Value), l[i]? = some d → (flatD l).set (i * 2 + 1) v = flatD (l.set i (d.1, v))
  | [], _, _, _, h => by simp at h
  | x :: l, 0, d, v, h => by simp at h; subst h; rfl
  | x :: l, i + 1, d, v, h => by
    have := flatD_set l i d v (by simpa using h)
    rw [show (i + 1) * 2 + 1 = (i * 2 + 1) + 1 + 1 from by omega, flatD, List.set_cons_succ, List.set_cons_succ, this]
    rfl
end Go.Proofs.Ytallloempmmgpaa
