/-
  positions(a) maps each rune of a list of letters to the index of its first letter; Index and Classes. Condition: the slice holds the letters.
-/
import Derived.Test.YtfjfgjncmliadaaDoorAlphBase
import Derived.Maps.OwnOps
import Derived.Maps.OwnSet
import Derived.Maps.Views
import Derived.Maps.AppendAt
namespace Go.Proofs.YtfjfgjncmliadaaDoor
open Go.RowKit Go.Maps
open AlphPlain

theorem lawR : Keyed Tryd.prog 21 := int_keyed Tryd.underlying21
theorem zeroI (w : World) : (zeroValue 3).run Tryd.prog w = .ok (.int .i64 0) w := by kernel_rfl
theorem run_makeMapR (n : Int) (w : World) : (Instr.makeMap 103 (some (.int .i64 n))).run Tryd.prog w = .ok (.map (some w.heap.size)) (w.alloc (.map #[] 0)) := by
  kernel_rfl

/-- Block Bm maps the runes of ls to their first indices. -/
structure PosIn (w : World) (Bm k : Nat) (D : DataW Unit) (ls : List Lt) : Prop where
  own : w.ownsMap Tryd.prog 21 (plainElem Tryd.prog 3) Bm k D
  has : ∀ r : Int, Maps.has D (.int .i32 r) = AlphPlain.has ls r
  pos : ∀ r : Int, D.atKey (.int .i32 r) (.lit (.int .i64 0)) = .lit (.int .i64 (AlphPlain.pos ls r : Nat))
  size : Maps.size D = cnt ls

theorem PosIn.aft {w w' : World} {Bm k : Nat} {D : DataW Unit} {ls : List Lt} (h : PosIn w Bm k D ls) (a : Aft w w') : PosIn w' Bm k D ls := by
  refine ⟨?_, h.has, h.pos, h.size⟩
  have hlt := h.own.lt
  obtain ⟨es, clock, hb, r⟩ := h.own
  exact ⟨es, clock, (Below.block a Bm hlt).trans hb, r⟩

theorem PosIn.run {w : World} {Bm k : Nat} {D : DataW Unit} {ls : List Lt} (h : PosIn w Bm k D ls) {r : Int} (hr : (Lit.int .i32 r).wf = true) :
    (Instr.lookup 103 (.map (some Bm)) (.int .i32 r) true).run Tryd.prog w = .ok (.tuple #[.int .i64 (AlphPlain.pos ls r : Nat), .bool (AlphPlain.has ls r)]) w := by
  obtain ⟨v, ps, hrun, hv⟩ := h.own.look_ok lawR Tryd.underlying103 (zeroI w) (plainElem_int Tryd.underlying3 (by decide)) (keyOf_int_mk Tryd.underlying21 hr)
  rw [h.pos] at hv
  obtain ⟨c, rfl, hc, _⟩ := plainElem_int_inv Tryd.underlying3 hv
  simp at hc
  rw [hrun, h.has, hc.1]

theorem PosIn.old {w : World} {Bm k : Nat} {D : DataW Unit} {ls : List Lt} (h : PosIn w Bm k D ls) {l : Lt} (hl : AlphPlain.has ls l.1 = true) : PosIn w Bm (k + 1) D (ls ++ [l]) := by
  refine ⟨h.own.mono (by omega), fun r => ?_, fun r => ?_, ?_⟩
  · rw [h.has, has_snoc]
    by_cases e : l.1 = r
    · subst e; simp [hl]
    · simp [e]
  · rw [h.pos]
    unfold AlphPlain.pos
    rw [idx_snoc]
    cases k : idx ls r with
    | none =>
      by_cases e : l.1 = r
      · subst e; unfold AlphPlain.has at hl; rw [k] at hl; cases hl
      · simp [e]
    | some i => rfl
  · rw [h.size, cnt_snoc, if_pos hl]

theorem PosIn.new {w w' : World} {Bm k : Nat} {D : DataW Unit} {ls : List Lt} (h : PosIn w Bm k D ls) {l : Lt} (hl : AlphPlain.has ls l.1 = false) (hn : ls.length = k)
    (own' : w'.ownsMap Tryd.prog 21 (plainElem Tryd.prog 3) Bm (k + 1) (D.put (.int .i32 l.1) (.lit (.int .i64 (k : Nat))))) : PosIn w' Bm (k + 1) (D.put (.int .i32 l.1) (.lit (.int .i64 (k : Nat)))) (ls ++ [l]) := by
  have hnone : idx ls l.1 = none := by unfold AlphPlain.has at hl; cases e : idx ls l.1 <;> simp_all
  refine ⟨own', fun r => ?_, fun r => ?_, ?_⟩
  · by_cases e : r = l.1
    · subst e
      rw [has_put_same h.own.isMap (by simp [WideAt.IsKeyLit]), has_snoc]
      simp
    · rw [has_put_other (fun k => e (by simpa using k)), h.has, has_snoc]
      simp [Ne.symm e]
  · by_cases e : r = l.1
    · subst e
      rw [atKey_put_same h.own.isMap (by simp [WideAt.IsKeyLit])]
      unfold AlphPlain.pos
      rw [idx_snoc, hnone]
      simp [hn]
    · rw [atKey_put_other (fun k => e (by simpa using k)), h.pos]
      unfold AlphPlain.pos
      rw [idx_snoc]
      cases idx ls r <;> simp [Ne.symm e]
  · rw [size_put (h.own.tidy lawR), h.has, h.size, cnt_snoc]

def PosPost (w : World) (ls : List Lt) (e : Ending) (w' : World) : Prop := ∃ Bm k D, e = .returned (.map (some Bm)) ∧ PosIn w' Bm k D ls ∧ Aft w w'

set_option maxRecDepth 100000 in
set_option maxHeartbeats 800000 in
theorem positions_any (A : Option Addr) (n c : Nat) (ls : List Lt) (w : World) (ha : Ll w A n c ls) :
    Calls Tryd.prog 71 #[.slice A n c] w (PosPost w ls) := by
  have hn := ha.max
  have hnc := ha.le
  have hlen := Lib.hid ha.len
  have hmm := run_makeMapR
  go_enter Tryd.func71, Tryd.ntmps71
  go_wp2
  go_loopw [13] (fun i wr => ∃ k D, k ≤ n ∧ i = .int .i64 (k : Nat) ∧ PosIn wr w.heap.size k D (ls.take k) ∧ Aft w wr) (fun i _ => n - (intOf i).toNat)
  case atStart => exact ⟨0, .map [], Nat.zero_le _, rfl, ⟨World.ownsMap_made _ _ _ _, fun r => rfl, fun r => rfl, rfl⟩, (Aft.refl _).alloc _⟩
  case round =>
    obtain ⟨k, D, hk, rfl, hset, haf⟩ := hrel
    have HS := Lib.hid hset
    clear hset
    by_cases hlt : k < n
    · obtain ⟨b, off, l, rfl, hf, h1, h2⟩ := ha.at_ hlt
      have c1 := haf.cell h1
      have c2 := haf.cell h2
      have hw1 := (ha.wf l (List.mem_of_getElem? hf)).1
      have HF := Lib.hid hf
      have HA := Lib.hid haf
      have hr := fun o => (HS.out.aft ((Aft.refl _).alloc o)).run hw1
      have htk : (ls.take k).length = k := by rw [List.length_take, hlen.out]; omega
      have HK := Lib.hid htk
      clear hf h1 h2 haf htk
      cases hh : AlphPlain.has (ls.take k) l.1
      · rw [hh] at hr
        have HH := Lib.hid hh
        clear hh
        go_wp2_with (at_mapUpdate; refine wpList_mapUpdate_own _ rfl _ _ _ 103 rfl 21 3 lawR Tryd.underlying103 _ w.heap.size k D rfl (HS.out.own.alloc _) (by unfold maxLen; omega) _ _ _ rfl rfl (keyOf_int_mk Tryd.underlying21 hw1) _ [] (plainElem_int Tryd.underlying3 (WalkArith.wf_i64 (by omega))) ?_; intro w1 own1 grow1)
        go_roundw
        case rel => exact ⟨k + 1, _, by omega, by go_num, by rw [take_next HF.out]; exact HS.out.new HH.out HK.out own1, (HA.out.alloc _).grown grow1 (fun j hj => by cases hj; exact Nat.le_refl _)⟩
        case measure => simp [intOf]; omega
      · rw [hh] at hr
        have HH := Lib.hid hh
        clear hh
        go_wp2
        go_roundw
        case rel => exact ⟨k + 1, D, by omega, by go_num, by rw [take_next HF.out]; exact (HS.out.old HH.out).aft ((Aft.refl _).alloc _), HA.out.alloc _⟩
        case measure => simp [intOf]; omega
    · obtain rfl : k = n := by omega
      go_wp2
      go_ret
      have hs := HS.out
      rw [List.take_of_length_le (by rw [hlen.out]; exact Nat.le_refl _)] at hs
      exact ⟨_, _, _, rfl, hs, haf⟩
end Go.Proofs.YtfjfgjncmliadaaDoor
