/-
  cloneDimensions: a copy in blocks of its own. Condition: the slice holds at most 4 dimensions, each of at most 8 values.
-/
import Derived.Test.YtallloempmmgpaaAllClone
import Derived.Deep.Slices
namespace Go.Proofs.Ytallloempmmgpaa
open Go.RowKit
open FeatPlain

theorem row_set {w : World} {base : Nat} {e : TypeId} {size g n cap j : Nat} {xs : List Value} (h : w.ownsRow base e size (.slice (some ⟨g, 0, none⟩) n cap) n xs) (v : Value) :
    (w.setCell ⟨g, j, none⟩ v).ownsRow base e size (.slice (some ⟨g, 0, none⟩) n cap) n (xs.set j v) := by
  refine ⟨by rw [List.length_set]; exact h.1, ?_⟩
  rcases h.2 with ⟨e1, _⟩ | ⟨g', cap', cur, e1, e2, e3, e4, e5, e6, e7⟩
  · cases e1
  · cases e1
    refine .inr ⟨g, cap, cur.setIfInBounds j v, rfl, e2, ?_, e4, e5, by simpa using e6, ?_⟩
    · simp [World.setCell, Array.getElem?_modify, e3]
    · rw [Array.toList_setIfInBounds, List.take_set, e7]
theorem row_frozen {w : World} {base : Nat} {e : TypeId} {size g n cap : Nat} {xs : List Value} (h : w.ownsRow base e size (.slice (some ⟨g, 0, none⟩) n cap) n xs) (j : Nat) : w.frozen? ⟨g, j, none⟩ = false := by
  rcases h.2 with ⟨e1, _⟩ | ⟨g', cap', cur, e1, e2, e3, _⟩
  · cases e1
  · cases e1
    simp [World.frozen?, e3]

/-- The values dv stand for the dimensions ds, whose values lie where they came from. -/
structure Raw (w : World) (dv : List Dv) (ds : List Dm) : Prop where
  len : dv.length = ds.length
  at_ : ∀ (i : Nat) (d : Dm), ds[i]? = some d → ∃ B m e, dv[i]? = some (d.1, .slice B m e) ∧ Ss w B m e d.2
theorem Dd.raw {w : World} {A : Option Addr} {n c : Nat} {ds : List Dm} (h : Dd w A n c ds) : ∃ dv, Raw w dv ds ∧ ∀ ad, A = some ad → ∀ j u, (flatD dv)[j]? = some u → w.cell? (ad.add j) = some u := by
  have each : ∀ i, i < n → ∃ q : Option Addr × Nat × Nat, ∃ d, ds[i]? = some d ∧ (∀ ad, A = some ad → w.cell? (ad.add (i * 2)) = some (.string d.1) ∧ w.cell? (ad.add (i * 2 + 1)) = some (.slice q.1 q.2.1 q.2.2)) ∧ Ss w q.1 q.2.1 q.2.2 d.2 := by
    intro i hi
    obtain ⟨b, off, B, m, e, d, hA, h1, h2, h3, h4⟩ := h.at_ hi
    refine ⟨(B, m, e), d, h1, fun ad hd => ?_, h4⟩
    rw [hA] at hd
    cases hd
    rw [Addr.add_lit, Addr.add_lit]
    exact ⟨h2, by rw [← Nat.add_assoc]; exact h3⟩
  obtain ⟨q, hq⟩ := Deep.choose_lt each
  have hlen := h.len
  have hget : ∀ (i : Nat) (d : Dm), ds[i]? = some d → ((List.range n).map fun i => (((ds[i]?).getD (⟨#[]⟩, [])).1, Value.slice (q i).1 (q i).2.1 (q i).2.2))[i]? = some (d.1, .slice (q i).1 (q i).2.1 (q i).2.2) := by
    intro i d hi
    have hlt : i < n := by have := (List.getElem?_eq_some_iff.1 hi).1; omega
    simp [hlt, hi]
  refine ⟨(List.range n).map fun i => (((ds[i]?).getD (⟨#[]⟩, [])).1, Value.slice (q i).1 (q i).2.1 (q i).2.2), ⟨by simp [hlen], fun i d hi => ?_⟩, fun ad hA j u hj => ?_⟩
  · have hlt : i < n := by have := (List.getElem?_eq_some_iff.1 hi).1; omega
    obtain ⟨d', h1, _, h3⟩ := hq i hlt
    rw [hi] at h1
    cases h1
    exact ⟨_, _, _, hget i d hi, h3⟩
  · have hjl := (List.getElem?_eq_some_iff.1 hj).1
    rw [flatD_length, List.length_map, List.length_range] at hjl
    have hlt : j / 2 < n := by omega
    obtain ⟨d, h1, h2, _⟩ := hq (j / 2) hlt
    have h3 := flatD_get _ _ _ (hget _ _ h1)
    have h4 := h2 ad hA
    rcases Nat.mod_two_eq_zero_or_one j with hm | hm
    · have e : j = j / 2 * 2 := by omega
      rw [e] at hj ⊢
      rw [h3.1] at hj
      cases hj
      exact h4.1
    · have e : j = j / 2 * 2 + 1 := by omega
      rw [e] at hj ⊢
      rw [h3.2] at hj
      cases hj
      exact h4.2

theorem flatD_one : ∀ (l : List Dv), (∀ d ∈ l, d.2.oneCell' = true) → ∀ u ∈ flatD l, u.oneCell' = true
  | [], _, _, h => by cases h
  | d :: l, hd, u, h => by
    rw [flatD] at h
    rcases List.mem_cons.1 h with rfl | h
    · rfl
    · rcases List.mem_cons.1 h with rfl | h
      · exact hd d (by simp)
      · exact flatD_one l (fun x hx => hd x (List.mem_cons_of_mem _ hx)) u h
theorem Raw.one {w : World} {dv : List Dv} {ds : List Dm} (h : Raw w dv ds) : ∀ d ∈ dv, d.2.oneCell' = true := by
  intro x hx
  obtain ⟨i, hi⟩ := List.getElem?_of_mem hx
  have hlt : i < ds.length := by have := (List.getElem?_eq_some_iff.1 hi).1; have := h.len; omega
  obtain ⟨B, m, e, h1, _⟩ := h.at_ i _ (List.getElem?_eq_getElem hlt)
  rw [hi] at h1
  cases h1
  rfl

set_option maxRecDepth 100000 in
set_option maxHeartbeats 800000 in
theorem cloneR_any (A : Option Addr) (n c : Nat) (ds : List Dm) (w : World) (ha : Dd w A n c ds) (hb : n ≤ 4) :
    Calls Try.prog 32 #[.slice A n c] w (fun e w' => ∃ v dv, e = .returned v ∧ w'.ownsRow w.heap.size 40 2 v n (flatD dv) ∧ Raw w dv ds ∧ Aft w w') := by
  have hlen := Lib.hid ha.len
  obtain ⟨dv, hraw, hfl⟩ := (ha.aft ((Aft.refl w).alloc (.cells #[] 40))).raw
  obtain ⟨i0, hi, hz0, hz1, hz2⟩ := info_parts Try.infoDm
  have qn : ∀ (w : World) (a : Option Addr) (n c n' c' : Nat), (binOp .eql 22 (.slice a n c) (.slice none n' c')).run Try.prog w = .ok (.bool a.isNone) w := fun w a n c n' c' => Lib.run_eql_slice_nil w _ _ a n c n' c' Try.underlying22
  cases A with
  | none =>
    obtain rfl : c = 0 := ha.nl rfl
    obtain rfl : n = 0 := by have := ha.le; omega
    have hx := Lib.hid (List.length_eq_zero_iff.1 hlen.out)
    clear hraw hfl
    go_enter Try.func32, Try.ntmps32
    go_wp2
    go_ret
    exact ⟨_, [], rfl, World.ownsRow_nil _ _ _ _, ⟨by rw [hx.out]; rfl, fun i d h => by rw [hx.out] at h; simp at h⟩, Aft.refl _⟩
  | some x =>
    have own0 : (w.alloc (.cells #[] 40)).ownsRow w.heap.size 40 2 (.slice (some ⟨w.heap.size, 0, none⟩) 0 0) 0 [] := World.ownsRow_lit w #[] 0 (Nat.le_refl _) (by unfold maxLen; omega) rfl
    obtain ⟨dw, hraw2, hfl2⟩ := ha.raw
    have hdl : dw.length = n := hraw2.len.trans hlen.out
    have hfl3 : ∀ ad, some x = some ad → ∀ j u, (flatD dw)[j]? = some u → (w.alloc (.cells #[] 40)).cell? (ad.add j) = some u := fun ad had j u hj => ((Aft.refl w).alloc (.cells #[] 40)).cell (hfl2 ad had j u hj)
    have hone := flatD_one dw hraw2.one
    have HR := Lib.hid hraw2
    have HL := Lib.hid hdl
    clear hraw hfl hraw2 hfl2 hdl
    go_enter Try.func32, Try.ntmps32
    go_wp2_with (at_builtin; refine wpList_append_any rfl _ _ 22 rfl w.heap.size 40 i0 _ 2 40 Try.underlying22 hi hz0 hz1 hz2 rfl (by decide) _ _ _ rfl own0 (some x) n c (flatD dw) rfl (by rw [flatD_length, HL.out]) (fun e => by cases e) hfl3 hone (by unfold maxLen; omega) (by omega) (by simp) ?_; intro v0 w1 own1 grow1)
    have own1' : w1.ownsRow w.heap.size 40 2 v0 n (flatD dw) := by rw [Nat.zero_add, List.nil_append] at own1; exact own1
    have A1 : Aft w w1 := ((Aft.refl w).alloc _).grown grow1 (fun r hr => (own0.lt r hr).1)
    clear own0 own1 grow1
    go_wp2
    go_ret
    exact ⟨_, dw, rfl, own1', HR.out, A1⟩
end Go.Proofs.Ytallloempmmgpaa
