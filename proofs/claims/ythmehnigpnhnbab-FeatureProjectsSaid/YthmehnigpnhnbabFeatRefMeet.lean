/-
  The reference's Meet returns the features of the first list that Has finds in the second one. Condition: the slices hold the features, and the first one is no longer than an argument can be.
-/
import Derived.Test.YthmehnigpnhnbabFeatMeet
namespace Go.Proofs.Ythmehnigpnhnbab
open Go.RowKit
open FeatPlain

theorem filter_step {xs out : List Ft} {p : Ft → Bool} {k : Nat} {f : Ft} (h : xs.filter p = out ++ (xs.drop k).filter p) (hf : xs[k]? = some f) : xs.filter p = (out ++ if p f then [f] else []) ++ (xs.drop (k + 1)).filter p := by
  rw [h, drop_of_get hf, List.filter_cons]
  cases p f <;> simp

/-- A row of the call's own stays while only new memory is made. -/
theorem own_aft {wr w1 : World} {base : Nat} {e : TypeId} {size : Nat} {v : Value} {n : Nat} {l : List Value} (h : wr.ownsRow base e size v n l) (k : Aft wr w1) : w1.ownsRow base e size v n l := by
  refine ⟨h.1, ?_⟩
  rcases h.2 with h0 | ⟨g, cap, cur, hv, hb, hg, rest⟩
  · exact .inl h0
  · refine .inr ⟨g, cap, cur, hv, hb, ?_, rest⟩
    have hlt : g < wr.heap.size := by
      rcases Nat.lt_or_ge g wr.heap.size with h' | h'
      · exact h'
      · rw [Array.getElem?_eq_none h'] at hg; cases hg
    exact (Below.block k g hlt).trans hg

set_option maxRecDepth 100000 in
set_option maxHeartbeats 1600000 in
theorem refMeet_any (A : Option Addr) (n c : Nat) (xs : List Ft) (B : Option Addr) (m d : Nat) (ys : List Ft) (w : World) (ha : Sl w A n c xs) (hb : Sl w B m d ys) (hsz : n * 32 ≤ 140737488351232) :
    Calls Try.prog 23 #[.slice A n c, .slice B m d] w (SlPost w (xs.filter (hasB ys))) := by
  have hn := ha.max
  have hnc := ha.le
  have hlen := Lib.hid ha.len
  obtain ⟨i0, hi, hz0, hz1, hz2⟩ := info_parts Try.infoF
  go_enter Try.func23, Try.ntmps23
  go_wp2
  have own0 : (w.alloc (.cells #[] 29)).ownsRow w.heap.size 29 2 (.slice (some ⟨w.heap.size, 0, none⟩) 0 0) 0 [] := World.ownsRow_lit w #[] 0 (Nat.le_refl _) (by unfold maxLen; omega) rfl
  go_loopw [5, 6] (fun v i wr => ∃ k out, k ≤ n ∧ i = .int .i64 (k : Nat) ∧ wr.ownsRow w.heap.size 29 2 v out.length (flat out) ∧ out.length ≤ k ∧ xs.filter (hasB ys) = out ++ (xs.drop k).filter (hasB ys) ∧ Aft w wr) (fun _ i _ => n - (intOf i).toNat)
  case atStart => exact ⟨0, [], Nat.zero_le _, rfl, own0, by simp, by simp, (Aft.refl _).alloc _⟩
  case round =>
    obtain ⟨k, out, hk, rfl, own, le, eq, haf⟩ := hrel
    have HE := Lib.hid eq
    have HOWN := Lib.hid own
    clear eq own own0
    by_cases hlt : k < n
    · obtain ⟨b, off, f, rfl, hf, h1, h2⟩ := ha.at_ hlt
      have c1 := haf.cell h1
      have c2 := haf.cell h2
      have HF := Lib.hid hf
      clear hf
      by_cases hh : hasB ys f = true
      · go_wp2_with fail
        have hc := has_any B m d ys f wr (hb.aft haf)
        rw [hh] at hc
        refine hc.mono ?_
        rintro e w1 ⟨rfl, A1⟩
        have d1 := (haf.trans A1).cell h1
        have d2 := (haf.trans A1).cell h2
        have O1 := Lib.hid (own_aft HOWN.out A1)
        have hs1 := (haf.trans A1).size
        clear hc c1 c2
        go_wp2_with (at_builtin; refine wpList_append_own _ rfl _ _ 22 rfl w.heap.size 29 i0 _ 2 32 Try.underlying22 hi hz0 hz1 hz2 rfl (by decide) _ _ _ rfl (O1.out.alloc _) ⟨w1.heap.size, 0, none⟩ 1 1 (flat [f]) rfl rfl (one_cells _ f) (flat_one _) (by unfold maxLen; omega) (by omega) (by simp; omega) ?_; intro v' w2 own2 grow2 _)
        have hv' : ∃ g cap, v' = .slice (some ⟨g, 0, none⟩) (out.length + 1) cap := by
          rcases own2.2 with ⟨_, h0⟩ | ⟨g, cap, cur, hv, _⟩
          · omega
          · exact ⟨g, cap, hv⟩
        have hrel : ∀ V, v' = V → ∃ k_1 out_1, k_1 ≤ n ∧ Value.int .i64 ((k : Int) + 1) = .int .i64 (k_1 : Nat) ∧ w2.ownsRow w.heap.size 29 2 V (List.length out_1) (flat out_1) ∧ out_1.length ≤ k_1 ∧ xs.filter (hasB ys) = out_1 ++ (xs.drop k_1).filter (hasB ys) ∧ Aft w w2 := by
          rintro V rfl
          refine ⟨k + 1, out ++ [f], by omega, by go_num, ?_, by simp; omega, ?_, (((haf.trans A1).alloc _).grown grow2 (row_lt O1.out))⟩
          · rw [flat_append, List.length_append]
            exact own2
          · have := filter_step HE.out HF.out
            rwa [if_pos hh] at this
        have HR := Lib.hid hrel
        clear hrel
        obtain ⟨g', cap', rfl⟩ := hv'
        clear own2 grow2
        go_wp2
        go_roundw
        case rel => exact HR.out _ rfl
        case measure => simp [intOf]; omega
      · have hh' : hasB ys f = false := by simpa using hh
        go_wp2_with fail
        have hc := has_any B m d ys f wr (hb.aft haf)
        rw [hh'] at hc
        refine hc.mono ?_
        rintro e w1 ⟨rfl, A1⟩
        clear hc
        go_wp2
        go_roundw
        case rel => exact ⟨k + 1, out, by omega, by go_num, own_aft HOWN.out A1, by omega, by have := filter_step HE.out HF.out; simpa [hh'] using this, haf.trans A1⟩
        case measure => simp [intOf]; omega
    · obtain rfl : k = n := by omega
      have hfin := Sl.of_row HOWN.out rfl (by omega)
      obtain ⟨A3, c3, rfl, s3⟩ := hfin
      go_wp2
      go_ret
      refine ⟨⟨_, _, _, rfl, ?_⟩, haf⟩
      have e := HE.out
      rw [List.drop_of_length_le (by rw [hlen.out]; exact Nat.le_refl _), List.filter_nil, List.append_nil] at e
      rw [e]
      exact s3
end Go.Proofs.Ythmehnigpnhnbab
