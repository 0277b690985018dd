/-
  cloneDimensions returns the dimensions in blocks of its own. Condition: the slice holds valid dimensions.
-/
import Derived.Test.YtallloempmmgpaaAllClone2
namespace Go.Proofs.Ytallloempmmgpaa
open Go.RowKit
open FeatPlain

theorem Chg.setRow {w : World} {base : Nat} {e : TypeId} {size g n cap : Nat} {xs : List Value} (h : w.ownsRow base e size (.slice (some ⟨g, 0, none⟩) n cap) n xs) (j : Nat) (u : Value) {B : Nat} (hB : B ≤ base) : Chg [e] B w (w.setCell ⟨g, j, none⟩ u) := by
  rcases h.2 with ⟨e1, _⟩ | ⟨g', cap', cur, e1, e2, e3, _⟩
  · cases e1
  · cases e1
    have other : ∀ k, k ≠ g → (w.setCell ⟨g, j, none⟩ u).heap[k]? = w.heap[k]? := fun k hk => by
      simp [World.setCell, Array.getElem?_modify, Ne.symm hk]
    refine ⟨rfl, rfl, rfl, by simp [World.setCell], fun k hk => other k (by omega), fun k cur' t ht hk => ?_⟩
    rw [other k (fun e' => ?_)]
    · exact hk
    · subst e'
      rw [e3] at hk
      cases hk
      simp at ht

/-- The first k dimensions have their values in blocks of their own. -/
structure Cld (w wr : World) (k : Nat) (dv : List Dv) (ds : List Dm) : Prop where
  len : dv.length = ds.length
  at_ : ∀ (i : Nat) (d : Dm), ds[i]? = some d → ∃ x, dv[i]? = some (d.1, x) ∧ (i < k → Sr wr x d.2) ∧ (k ≤ i → ∃ B m e, x = .slice B m e ∧ Ss w B m e d.2)
theorem Cld.start {w wr : World} {dv : List Dv} {ds : List Dm} (h : Raw w dv ds) : Cld w wr 0 dv ds :=
  ⟨h.len, fun i d hi => by
    obtain ⟨B, m, e, h1, h2⟩ := h.at_ i d hi
    exact ⟨_, h1, fun h => by omega, fun _ => ⟨B, m, e, rfl, h2⟩⟩⟩
theorem Cld.next {w wr w3 : World} {k B : Nat} {dv : List Dv} {ds : List Dm} {d : Dm} {x : Value} (h : Cld w wr k dv ds) (hd : ds[k]? = some d) (hc : Chg [40] B wr w3) (hx : Sr w3 x d.2) : Cld w w3 (k + 1) (dv.set k (d.1, x)) ds := by
  refine ⟨by rw [List.length_set]; exact h.len, fun i e hi => ?_⟩
  obtain ⟨y, h1, h2, h3⟩ := h.at_ i e hi
  by_cases hik : i = k
  · subst hik
    rw [hd] at hi
    cases hi
    refine ⟨x, ?_, fun _ => hx, fun hh => by omega⟩
    rw [List.getElem?_set_self (by have := (List.getElem?_eq_some_iff.1 h1).1; exact this)]
  · refine ⟨y, by rw [List.getElem?_set_ne (Ne.symm hik)]; exact h1, fun hh => (h2 (by omega)).chg hc (by decide), fun hh => h3 (by omega)⟩

set_option maxRecDepth 100000 in
set_option maxHeartbeats 1600000 in
theorem cloneD_any (A : Option Addr) (n c : Nat) (ds : List Dm) (w : World) (ha : Dd w A n c ds) (hv : dimsB ds = true) :
    Calls Try.prog 26 #[.slice A n c] w (fun e w' => ∃ va vc, e = .returned (.slice va n vc) ∧ Di w' va n vc ds ∧ Aft w w') := by
  have hlen := Lib.hid ha.len
  simp only [dimsB, Bool.and_eq_true, decide_eq_true_eq, List.all_eq_true, dimOk] at hv
  have hb : n ≤ 4 := by have := hv.1; have := ha.len; omega
  have h8 : ∀ d ∈ ds, d.2.length ≤ 8 := fun d hd => (hv.2.1 d hd).2.1
  have H8 := Lib.hid h8
  clear hv h8
  have hcl := cloneR_any A n c ds w ha hb
  go_enter Try.func26, Try.ntmps26
  go_wp2_with fail
  refine hcl.mono ?_
  rintro e w1 ⟨v, dv, rfl, own1, raw, A1⟩
  clear hcl
  have hvs : ∃ va vc, v = .slice va n vc ∧ n ≤ vc ∧ vc ≤ maxLen := by
    rcases own1.2 with ⟨rfl, rfl⟩ | ⟨g, cap, cur, rfl, _, _, h1, h2, _⟩
    · exact ⟨none, 0, rfl, Nat.le_refl _, by unfold maxLen; omega⟩
    · exact ⟨_, _, rfl, h1, h2⟩
  obtain ⟨va, vc, rfl, hnv, hvm⟩ := hvs
  unfold maxLen at hvm
  have HO1 := Lib.hid own1
  have HR := Lib.hid raw
  clear own1 raw
  go_wp2
  go_loopw [10] (fun i wr => ∃ k dv', k ≤ n ∧ i = .int .i64 (k : Nat) ∧ wr.ownsRow w.heap.size 40 2 (.slice va n vc) n (flatD dv') ∧ Cld w wr k dv' ds ∧ Aft w wr) (fun i _ => n - (intOf i).toNat)
  case atStart => exact ⟨0, dv, Nat.zero_le _, rfl, HO1.out, Cld.start HR.out, A1⟩
  case round =>
    obtain ⟨k, dv', hk, rfl, own, cld, haf⟩ := hrel
    by_cases hlt : k < n
    · obtain ⟨d, hd⟩ : ∃ d, ds[k]? = some d := ⟨_, List.getElem?_eq_getElem (by rw [hlen.out]; exact hlt)⟩
      obtain ⟨x, hx, _, hx2⟩ := cld.at_ k d hd
      obtain ⟨B, m, e, rfl, hss⟩ := hx2 (Nat.le_refl _)
      obtain ⟨g, rfl⟩ : ∃ g, va = some ⟨g, 0, none⟩ := by
        rcases own.2 with ⟨_, h0⟩ | ⟨g, cap, cur, e1, _⟩
        · omega
        · cases e1; exact ⟨g, rfl⟩
      have hfg := flatD_get _ _ _ hx
      have c1 : wr.cell? ⟨g, k * 2, none⟩ = some (.string d.1) := (own.cellAt _ (by omega)).trans hfg.1
      have c2 : wr.cell? ⟨g, k * 2 + 1, none⟩ = some (.slice B m e) := (own.cellAt _ (by omega)).trans hfg.2
      have hm8 : m ≤ 8 := by have := H8.out d (List.mem_of_getElem? hd); have := hss.len; omega
      have AL : Aft wr (wr.alloc (.cells #[.string d.1, .slice B m e] 40)) := (Aft.refl wr).alloc _
      have hcs := cloneS_any B m e d.2 _ (hss.aft (haf.trans AL)) hm8
      have hml := Lib.hid hss.len
      have HD := Lib.hid hd
      have HC := Lib.hid cld
      have HOW := Lib.hid own
      have hset : ∀ u, (flatD dv').set (k * 2 + 1) u = flatD (dv'.set k (d.1, u)) := fun u => flatD_set _ _ _ u hx
      have hset := Lib.hid hset
      clear hfg hx hx2 hd cld own hss
      go_wp2_with fail
      refine hcs.mono ?_
      rintro e2 w2 ⟨cv, rfl, cown, A2⟩
      clear hcs
      obtain ⟨ca, cc, rfl, _⟩ := Ss.of_own cown hml.out (by omega)
      have A12 := AL.trans A2
      have own2 := (Chg.of_aft (ts := []) (B := 0) A12 (Nat.zero_le _)).row HOW.out (by simp)
      have f2 := row_frozen own2 (k * 2 + 1)
      have d2 := A12.cell c2
      have hgb : w.heap.size ≤ g := (HOW.out.lt g rfl).1
      have chg3 := Chg.setRow own2 (k * 2 + 1) (.slice ca m cc) (B := 0) (Nat.zero_le _)
      have own3 := row_set (j := k * 2 + 1) own2 (.slice ca m cc)
      have sr3 : Sr (w2.setCell ⟨g, k * 2 + 1, none⟩ (.slice ca m cc)) (.slice ca m cc) d.2 := ⟨chg3.row (row_base (by rw [hml.out]; exact cown) (Nat.zero_le _)) (by decide), by rw [hml.out]; exact hm8⟩
      have cld3 := HC.out.next HD.out ((Chg.of_aft A12 (Nat.zero_le _)).trans chg3) sr3
      have A3 := (haf.trans A12).setCell (p := ⟨g, k * 2 + 1, none⟩) hgb (.slice ca m cc)
      have O3 := Lib.hid own3
      have S3 := Lib.hid cld3
      clear own2 own3 cld3 sr3 chg3 cown
      go_wp2
      go_roundw
      case rel => exact ⟨k + 1, _, by omega, by go_num, by rw [← hset.out]; exact O3.out, S3.out, A3⟩
      case measure => simp [intOf]; omega
    · obtain rfl : k = n := by omega
      have HC := Lib.hid cld
      have HOW := Lib.hid own
      clear cld own
      go_wp2
      go_ret
      refine ⟨va, vc, rfl, ⟨hlen.out, hnv, hb, by omega, ?_, fun hne => ?_⟩, haf⟩
      · rintro rfl
        rcases HOW.out.2 with ⟨e1, _⟩ | ⟨g, cap, cur, e1, _⟩
        · cases e1; rfl
        · cases e1
      · rcases HOW.out.2 with ⟨_, h0⟩ | ⟨g, cap, cur, e1, e2, e3, e4, e5, e6, e7⟩
        · exact absurd (List.length_eq_zero_iff.1 (hlen.out.trans h0)) hne
        · cases e1
          refine ⟨g, 0, cur, rfl, e3, fun i d hi => ?_⟩
          obtain ⟨x, h1, h2, _⟩ := HC.out.at_ i d hi
          have hi' : i < k := by have := (List.getElem?_eq_some_iff.1 hi).1; have := hlen.out; omega
          have h3 := flatD_get _ _ _ h1
          rw [← e7, List.getElem?_take, List.getElem?_take, if_pos (by omega), if_pos (by omega), Array.getElem?_toList, Array.getElem?_toList] at h3
          rw [Nat.zero_add]
          exact ⟨h3.1, x, h3.2, h2 hi'⟩
end Go.Proofs.Ytallloempmmgpaa
