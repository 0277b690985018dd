/-
  Sort: the strings in collation order, equal ones in their original order. Conditions: the slices hold the letters and the strings, the tables lie as their texts say; there are at most 40 strings.
-/
import Derived.Test.YtgnhkacndmdfgaaDoorSortStable
import Derived.Test.YtgnhkacndmdfgaaDoorShelfC
import Derived.Test.YtgnhkacndmdfgaaDoorAlphRefWords
namespace Go.Proofs.YtgnhkacndmdfgaaDoor
open Go.RowKit
open AlphPlain SortPlain

theorem insertion0_any (A : Option Addr) (c : Nat) (fv : Value) (w : World) :
    Calls Tryd.prog 60 #[.slice A 0 c, .int .i64 0, .int .i64 0, fv] w (fun e w' => e = .returned (.tuple #[]) ∧ w = w') := by
  go_enter Tryd.func60, Tryd.ntmps60
  go_wp2
  refine wp_loop_rounds 1 ?_
  rw [rounds_succ]
  go_wp2
  go_end0
  exact ⟨rfl, rfl⟩
theorem stable0_any (A : Option Addr) (c : Nat) (fv : Value) (w : World) :
    Calls Tryd.prog 56 #[.slice A 0 c, .int .i64 0, fv] w (fun e w' => e = .returned (.tuple #[]) ∧ w = w') := by
  go_enter Tryd.func56, Tryd.ntmps56
  go_wp2
  refine wp_loop_rounds 1 ?_
  rw [rounds_succ]
  go_wp2_with fail
  refine (insertion0_any A c fv w).mono ?_
  rintro e w1 ⟨rfl, rfl⟩
  go_wp2
  refine wp_loop_rounds 1 ?_
  rw [rounds_succ]
  go_wp2
  go_end0
  exact ⟨rfl, rfl⟩
theorem sortStable0_any (A : Option Addr) (c : Nat) (fv : Value) (w : World) :
    Calls Tryd.prog 48 #[.slice A 0 c, fv] w (fun e w' => e = .returned (.tuple #[]) ∧ w = w') := by
  go_enter Tryd.func48, Tryd.ntmps48
  go_wp2_with fail
  refine (stable0_any A c fv w).mono ?_
  rintro e w1 ⟨rfl, rfl⟩
  go_wp2
  go_end0
  exact ⟨rfl, rfl⟩

def ZeroPost (w : World) (e : Ending) (w' : World) : Prop := ∃ C cap, e = .returned (.slice C 0 cap) ∧ (C = none → cap = 0) ∧ cap ≤ 9223372036854775807 ∧ Aft w w'
theorem clone0_any (B : Option Addr) (d : Nat) (w : World) : Calls Tryd.prog 47 #[.slice B 0 d] w (ZeroPost w) := by
  cases B with
  | none => exact (Tryd.slices_Clone_string_nil 0 d w).mono fun e w' ⟨h1, h2⟩ => ⟨none, 0, h1, fun _ => rfl, by omega, by rw [h2]; exact Aft.refl w⟩
  | some a =>
    refine (Tryd.slices_Clone_string_zero a d w).mono ?_
    rintro e w' ⟨v', h1, h2, h3, h4⟩
    rcases h2.2 with ⟨k, _⟩ | ⟨g, cap, cur, k, _, _, _, hm, _⟩
    · exact absurd k h3
    · subst k
      refine ⟨_, _, h1, fun e => (by cases e), by unfold maxLen at hm; omega, h4⟩

set_option maxRecDepth 100000 in
set_option maxHeartbeats 800000 in
theorem sort_any (A : Option Addr) (n c : Nat) (ls : List Lt) (B : Option Addr) (m d : Nat) (ss : List ByteArray) (w : World) (ha : Ll w A n c ls) (hb : Ss w B m d ss) (hT : Tabs w) (h40 : m ≤ 40) :
    Calls Tryd.prog 30 #[.slice A n c, .slice B m d] w (SsPost w (isort (ltb ls) ss)) := by
  by_cases hm : m = 0
  · subst hm
    obtain rfl : ss = [] := List.length_eq_zero_iff.1 hb.len
    have h0 := clone0_any B d w
    go_enter Tryd.func30, Tryd.ntmps30
    go_wp2_with fail
    refine h0.mono ?_
    rintro e w1 ⟨C, cap, rfl, hn, hcap, A1⟩
    clear h0
    go_wp2_with fail
    refine (collation_any A n c ls w1 (ha.aft A1)).mono ?_
    rintro e w2 ⟨Bc, Bm, k, D, rfl, hc, hp, A2⟩
    go_wp2_with fail
    refine (sortStable0_any C cap _ w2).mono ?_
    rintro e w3 ⟨rfl, rfl⟩
    go_wp2
    go_ret
    exact ⟨⟨_, _, _, rfl, Ss.nil hcap hn⟩, A1.trans A2⟩
  · obtain ⟨b, off, s0, rfl, hs0, hc0⟩ := hb.at_ (show 0 < m by omega)
    have hmx := hb.max
    have hlen := hb.len
    have h0 := Tryd.slices_Clone_string b off m d ss w (by omega) (by omega) (fun j hj => by
      obtain ⟨b', off', e1, e2⟩ := hb.cells j _ (List.getElem?_eq_getElem hj)
      cases e1
      rw [e2]
      simp [List.getD, List.getElem?_eq_getElem hj])
    rw [List.take_of_length_le (by omega)] at h0
    have HL := Lib.hid hlen
    have HS0 := Lib.hid hs0
    clear hlen hs0
    go_enter Tryd.func30, Tryd.ntmps30
    go_wp2_with fail
    refine h0.mono ?_
    rintro e w1 ⟨v', rfl, own, hnn, A1⟩
    clear h0
    have A1 : Aft w w1 := A1
    rcases own.2 with ⟨k, _⟩ | ⟨g, cap, cur, k, hg, hcur, hcap, _, _⟩
    · exact absurd k hnn
    subst k
    have HOWN := Lib.hid own
    have HCUR := Lib.hid hcur
    clear own hcur hnn
    go_wp2_with fail
    refine (collation_any A n c ls w1 (ha.aft A1)).mono ?_
    rintro e w2 ⟨Bc, Bm, k, D, rfl, hc, hp, A2⟩
    have hgl : g < w1.heap.size := (HOWN.out.lt g rfl).2
    have hst : Sw w2 g ss w2 := Sw.start (Nat.lt_of_lt_of_le hgl A2.size)
      (fun i s hi => A2.cell (by
        have hlt : i < m := by have := (List.getElem?_eq_some_iff.1 hi).1; have := HL.out; omega
        rw [HOWN.out.cellAt i (by omega)]
        simp [hi]))
      (fun i hi => (Below.frozen A2 (p := ⟨g, i, none⟩) hgl).trans (HOWN.out.frozenAt i))
    have hcx : Cx w2 g Bc Bm k D ls := by
      refine ⟨hc, hp, tabs_aft hT (A1.trans A2), ?_, ?_, ?_, ?_⟩
      · intro e
        subst e
        have h1 := hst.cells 0 s0 HS0.out
        rw [hc] at h1
        cases h1
      · intro e
        subst e
        obtain ⟨es, clock, hb, r⟩ := hp.own
        have := (A2.block Bm hgl).trans HCUR.out
        rw [hb] at this
        cases this
      · have := World.block_lt_of_cell? w _ (hT.1 0 (by omega))
        simp at this
        omega
      · have := World.block_lt_of_cell? w _ (hT.2 0 (by omega)).1
        simp at this
        omega
    have hz := sortStable_any w2 g Bc Bm k D ls hcx m cap ss w2 hst HL.out h40
    have A12 := A1.trans A2
    clear hst hcx hc hp
    go_wp2_with fail
    refine hz.mono ?_
    rintro e w3 ⟨rfl, q⟩
    clear hz
    go_wp2
    go_ret
    refine ⟨⟨_, _, _, rfl, ?_⟩, q.base A12 hg⟩
    have hl := isort_len (ltb ls) ss
    exact ⟨by rw [hl]; exact HL.out, hcap, by omega, by rcases HOWN.out.2 with ⟨k, _⟩ | ⟨g', cap', cur', k, _, _, _, hmx, _⟩; (· cases k); (· cases k; unfold maxLen at hmx; omega), fun e => (by cases e), fun i s hi => ⟨g, 0, rfl, by rw [Nat.zero_add]; exact q.cells i s hi⟩⟩
end Go.Proofs.YtgnhkacndmdfgaaDoor
