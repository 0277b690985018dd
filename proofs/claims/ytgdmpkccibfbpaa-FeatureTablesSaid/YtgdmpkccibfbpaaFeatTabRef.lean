/-
  The reference's Subsumes; Matches of a table of features. Conditions: the table holds its entries; the slices hold the features.
-/
import Derived.Test.YtgdmpkccibfbpaaFeatFind
namespace Go.Proofs.Ytgdmpkccibfbpaa
open Go.RowKit Go.Shelf
open FeatPlain

def rsubs (xs ys : List Ft) : Bool := xs.all (hasB ys)
theorem rsubs_eq {xs ys : List Ft} (hx : Asc xs) (hy : Asc ys) : rsubs xs ys = subs xs ys := by
  rw [Bool.eq_iff_iff, subs_iff hx hy]
  unfold rsubs
  rw [List.all_eq_true]
  exact ⟨fun h f hf => (hasB_iff hy f).1 (h f hf), fun h f hf => (hasB_iff hy f).2 (h f hf)⟩

set_option maxRecDepth 100000 in
set_option maxHeartbeats 800000 in
theorem refSubs_any (A : Option Addr) (n c : Nat) (xs : List Ft) (B : Option Addr) (m d : Nat) (ys : List Ft) (w : World) (ha : Sl w A n c xs) (hb : Sl w B m d ys) :
    Calls Try.prog 12 #[.slice A n c, .slice B m d] w (BoolPost w (rsubs xs ys)) := by
  have hn := ha.max
  have hnc := ha.le
  have hlen := Lib.hid ha.len
  go_enter Try.func12, Try.ntmps12
  go_wp2
  go_loopw [5] (fun i wr => ∃ k, k ≤ n ∧ i = .int .i64 (k : Nat) ∧ (xs.take k).all (hasB ys) = true ∧ Aft w wr) (fun i _ => n - (intOf i).toNat)
  case atStart => exact ⟨0, Nat.zero_le _, rfl, rfl, Aft.refl _⟩
  case round =>
    obtain ⟨k, hk, rfl, hall, haf⟩ := hrel
    have HA := Lib.hid hall
    clear hall
    by_cases hlt : k < n
    · obtain ⟨b, off, f, rfl, hf, h1, h2⟩ := ha.at_ hlt
      have c1 := haf.cell h1
      have c2 := haf.cell h2
      have HF := Lib.hid hf
      have hcall := has_any B m d ys f wr (hb.aft haf)
      cases hh : hasB ys f
      · rw [hh] at hcall
        have HB : rsubs xs ys = false := by
          unfold rsubs
          rw [List.all_eq_false]
          exact ⟨f, List.mem_of_getElem? hf, by simp [hh]⟩
        have HB := Lib.hid HB
        have HC := Lib.hid hcall
        clear hcall hf h1 h2
        go_wp2_with fail
        refine HC.out.mono ?_
        rintro e w1 ⟨rfl, A1⟩
        go_wp2
        go_ret
        exact ⟨by rw [HB.out]; rfl, haf.trans A1⟩
      · rw [hh] at hcall
        have HC := Lib.hid hcall
        clear hcall hf h1 h2
        go_wp2_with fail
        refine HC.out.mono ?_
        rintro e w1 ⟨rfl, A1⟩
        go_wp2
        go_roundw
        case rel => exact ⟨k + 1, by omega, by go_num, by rw [List.take_add_one, HF.out, List.all_append, HA.out]; simp [hh], haf.trans A1⟩
        case measure => simp [intOf]; omega
    · obtain rfl : k = n := by omega
      have HB : rsubs xs ys = true := by
        have h := HA.out
        rwa [List.take_of_length_le (by rw [hlen.out]; exact Nat.le_refl _)] at h
      have HB := Lib.hid HB
      go_wp2
      go_ret
      exact ⟨by rw [HB.out]; rfl, haf⟩

def MatchPost (w : World) (v : Value) (ys : List Ft) (e : Ending) (w' : World) : Prop :=
  ∃ Be A c, e = .returned (.func (.func 41) #[] #[.pointer (some ⟨Be, 0, none⟩), .pointer (some ⟨Be + 1, 0, none⟩)]) ∧ Boxed w' Be 56 v ∧ Boxed w' (Be + 1) 29 (.slice A ys.length c) ∧ Cl w' (.slice A ys.length c) ys ∧ Aft w w'

set_option maxRecDepth 100000 in
set_option maxHeartbeats 1600000 in
theorem matches_any (T : Nat) (va : Option Addr) (vc : Nat) (es : List En) (Bq : Option Addr) (m d : Nat) (ys : List Ft) (w : World) (bx : Boxed w T 58 (.slice va es.length vc)) (hq : Sl w Bq m d ys) (hb : m * 32 ≤ 140737488355328) :
    Calls Try.prog 15 #[.pointer (some ⟨T, 0, none⟩), .slice Bq m d] w (MatchPost w (.slice va es.length vc) ys) := by
  have hlen := Lib.hid hq.len
  have hKp : ∀ W, Aft w W → (Aft w W ∧ W.cell? ⟨T, 0, none⟩ = some (.slice va es.length vc)) := fun W h => ⟨h, h.cell bx.cell⟩
  go_enter Try.func15, Try.ntmps15
  go_wp2
  refine wp_region_held_drew (S := fun W => Aft w W ∧ W.cell? ⟨T, 0, none⟩ = some (.slice va es.length vc)) (by kernel_rfl) (by first | exact hKp _ (by assumption) | exact hKp _ (Below.drew (by assumption)) | exact hKp _ (Aft.refl _).drew) (fun hHeld => ?_)
  refine take_on (i := 0) (v := ?v1) rfl (by kernel_rfl) (by kernel_rfl) (by kernel_rfl) (fun _ _ _ h => h) (by rfl) (by assumption) ?y1 ?_
  case y1 => (intro w hSw; (try dsimp only at hSw); go_simp; (try with_reducible rfl))
  try simp only [Act.put, List.setIfInBounds_toArray, List.set_cons_zero, List.set_cons_succ]
  refine take_on (i := 1) (v := ?v2) rfl (by kernel_rfl) (by kernel_rfl) (by kernel_rfl) (fun _ _ _ h => h) (by rfl) (by assumption) ?y2 ?_
  case y2 => (intro w hSw; (try dsimp only at hSw); go_simp; (try with_reducible rfl))
  try simp only [Act.put, List.setIfInBounds_toArray, List.set_cons_zero, List.set_cons_succ]
  refine take_on (i := 2) (v := ?v3) rfl (by kernel_rfl) (by kernel_rfl) (by kernel_rfl) (fun _ _ _ h => h) (by rfl) (by assumption) ?y3 ?_
  case y3 => (intro w hSw; (try dsimp only at hSw); go_simp; (try with_reducible rfl))
  try simp only [Act.put, List.setIfInBounds_toArray, List.set_cons_zero, List.set_cons_succ]
  refine take_on (i := 3) (v := ?v4) rfl (by kernel_rfl) (by kernel_rfl) (by kernel_rfl) (fun _ _ _ h => h) (by rfl) (by assumption) ?y4 ?_
  case y4 => (intro w hSw; (try dsimp only at hSw); go_simp; (try with_reducible rfl))
  try simp only [Act.put, List.setIfInBounds_toArray, List.set_cons_zero, List.set_cons_succ]
  refine take_on (i := 4) (v := ?v5) rfl (by kernel_rfl) (by kernel_rfl) (by kernel_rfl) (fun _ _ _ h => h) (by rfl) (by assumption) ?y5 ?_
  case y5 => (intro w hSw; (try dsimp only at hSw); go_simp; (try with_reducible rfl))
  try simp only [Act.put, List.setIfInBounds_toArray, List.set_cons_zero, List.set_cons_succ]
  refine one_ready (i := 5) rfl (by kernel_rfl) (by rfl) (fun K hK => ?_)
  go_simp
  have hHA := hHeld.1
  refine (clone_any Bq m d ys _ (by exact hq.aft hHA) hb).mono ?_
  rintro e w1 ⟨cv, rfl, cown, A1⟩
  have A01 : Aft w w1 := hHA.trans A1
  have hcl : Cl w1 cv ys := ⟨row_base (by rw [hlen.out]; exact cown) (Nat.zero_le _), by rw [hlen.out]; omega⟩
  obtain ⟨ca, cc, rfl, _⟩ := hcl.sl
  try go_simp
  refine hK.out _ _ (by first | exact hKp _ (by assumption) | exact hKp _ (Below.drew (by assumption)) | exact hKp _ (Aft.refl _).drew) (fun hHeld => ?_)
  clear hK K
  try simp only [Act.put, List.setIfInBounds_toArray, List.set_cons_zero, List.set_cons_succ]
  refine one_ready (i := 6) rfl (by kernel_rfl) (by rfl) (fun K hK => ?_)
  go_simp
  refine (matching_any (.slice va es.length vc) ca ys.length cc va es.length vc rfl _).mono ?_
  rintro e w2 ⟨rfl, hw2⟩
  have A12 : Aft w1 w2 := by rw [hw2]; exact ((Aft.refl _).alloc _).alloc _
  have A02 := A01.trans A12
  have b1 : Boxed w2 w1.heap.size 56 (.slice va es.length vc) := by rw [hw2]; exact (Boxed.new w1 56 (.slice va es.length vc)).alloc _
  have b2 : Boxed w2 (w1.heap.size + 1) 29 (.slice ca ys.length cc) := by have h := Boxed.new (w1.alloc (.cells #[.slice va es.length vc] 56)) 29 (.slice ca ys.length cc); rw [World.size_alloc] at h; rw [hw2]; exact h
  clear hw2
  try go_simp
  refine hK.out _ _ (by first | exact hKp _ (by assumption) | exact hKp _ (Below.drew (by assumption)) | exact hKp _ (Aft.refl _).drew) (fun hHeld => ?_)
  clear hK K
  try simp only [Act.put, List.setIfInBounds_toArray, List.set_cons_zero, List.set_cons_succ]
  refine take_on (i := 7) (v := ?v8) rfl (by kernel_rfl) (by kernel_rfl) (by kernel_rfl) (fun _ _ _ h => h) (by rfl) (by assumption) ?y8 ?_
  case y8 => (intro w hSw; (try dsimp only at hSw); go_simp; (try with_reducible rfl))
  try simp only [Act.put, List.setIfInBounds_toArray, List.set_cons_zero, List.set_cons_succ]
  refine wpAnyH_done (by kernel_rfl) ?_ _
  go_wp2
  go_ret
  exact ⟨w1.heap.size, ca, cc, rfl, b1, b2, hcl.chg (ts := []) (Chg.of_aft A12 (Nat.zero_le _)) (by simp), A02⟩
end Go.Proofs.Ytgdmpkccibfbpaa
