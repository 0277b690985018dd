/-
  Nuclei returns the indices of the vowels of a string. Conditions: the slice holds the letters; the string has at most 1000000 bytes.
-/
import Derived.Test.YtfjfgjncmliadaaDoorSylCls
import Derived.Test.YtfjfgjncmliadaaDoorAlphIsWord
import Derived.WalkSmall
import Derived.Lib.FrozenHead2
import Derived.Lib.OthersKept
namespace Go.Proofs.YtfjfgjncmliadaaDoor
open Go.RowKit Go.Maps
open AlphPlain

theorem Tryd.infoI : (Tryd.prog.info? 3).map (fun i => (i.zero, i.size, i.bytes)) = some (some (.int .i64 0), 1, 8) := by kernel_rfl
def IsPost (w : World) (l : List Int) (e : Ending) (w' : World) : Prop := (∃ A n c, e = .returned (.slice A n c) ∧ Rw vI w' A n c l) ∧ Aft w w'
theorem natI_append (a b : List Nat) : natI (a ++ b) = natI a ++ natI b := List.map_append
theorem natI_length (a : List Nat) : (natI a).length = a.length := by simp [natI]
theorem row_succ {w : World} {base n : Nat} {e : TypeId} {v : Value} {l : List Value} (h : w.ownsRow base e 1 v (n + 1) l) : ∃ g cap, v = .slice (some ⟨g, 0, none⟩) (n + 1) cap := by
  rcases h.2 with ⟨_, h0⟩ | ⟨g, cap, cur, hv, _⟩
  · omega
  · exact ⟨g, cap, hv⟩
theorem oneI (z : Int) : ∀ u ∈ [vI z], u.oneCell' = true := by intro u hu; simp at hu; subst hu; rfl

theorem iter_grown {wi w3 : World} {k n p : Nat} {s : ByteArray} {o : Obj} {e : TypeId} {v : Value} {l : List Value} (hit : wi.heap[k]? = some (.stringIter s p)) (hown : wi.ownsRow (k + 1) e 1 v n l) (hg : (wi.alloc o).grownBy w3 v.ownBlock) : w3.heap[k]? = some (.stringIter s p) := by
  have hk := (Array.getElem?_eq_some_iff.1 hit).1
  rw [hg.block k (by simp; omega) (fun e => by have := (hown.lt k e.symm).1; omega), Lib.alloc_old wi o k hk]
  exact hit

set_option maxRecDepth 100000 in
set_option maxHeartbeats 1600000 in
theorem nuclei_any (A : Option Addr) (n c : Nat) (ls : List Lt) (s : ByteArray) (w : World) (ha : Ll w A n c ls) (hs : s.size ≤ 1000000) :
    Calls Tryd.prog 19 #[.slice A n c, .string s] w (IsPost w (natI (nuc ls (runesOf s) 0))) := by
  obtain ⟨i0, hi, hz0, hz1, hz2⟩ := info_parts Tryd.infoI
  go_enter Tryd.func19, Tryd.ntmps19
  go_wp2_with fail
  refine (classesOf_any A n c ls w ha).mono ?_
  rintro e w1 ⟨Bm, k, D, rfl, hm, A1⟩
  have HM := Lib.hid hm
  clear hm
  have hs1 := A1.size
  go_wp2
  go_loopw [6, 7] (fun v i wr => ∃ (p b : Nat) (rs : List Int), wr.heap[w1.heap.size]? = some (.stringIter s p) ∧ i = .int .i64 (rs.length : Nat) ∧ wr.ownsRow (w1.heap.size + 1) 3 1 v (nuc ls rs 0).length ((natI (nuc ls rs 0)).map vI) ∧ runesOf s = rs ++ runesL s b p ∧ s.size ≤ p + b ∧ rs.length ≤ p ∧ p ≤ s.size ∧ Aft w1 wr) (fun _ _ wr => s.size - wr.iterPos w1.heap.size)
  case atStart => exact ⟨0, s.size, [], World.iter_heap _ _ _, rfl, World.ownsRow_nil _ _ _ _, rfl, by omega, Nat.le_refl _, Nat.zero_le _, (Aft.refl _).alloc _⟩
  case round =>
    obtain ⟨p, b, rs, hit, rfl, own, he, hb, hrp, hps, haf⟩ := hrel
    have HE := Lib.hid he
    have HOWN := Lib.hid own
    have hol : (nuc ls rs 0).length ≤ rs.length := nuc_len ls rs 0
    clear he own
    by_cases hlt : p < s.size
    · have hnx := fun ty => Lib.run_next_any_at (P := Tryd.prog) wr w1.heap.size s p ty hit hlt
      have hwp := width_pos s p hlt
      have hwf1 := decode_wf s p
      have hft := decode_fits s p hlt
      obtain ⟨b, rfl⟩ : ∃ b', b = b' + 1 := ⟨b - 1, by omega⟩
      have he1 := HE.out
      rw [runesL, if_pos hlt] at he1
      have af1 := iter_aft haf (Nat.le_refl _) s (p + (Utf8.decode s p).2)
      have it1 := Lib.iterAt_heap wr w1.heap.size s p (p + (Utf8.decode s p).2) hit
      have hsz1 := af1.size
      have hown1 := ownsRow_iterAt HOWN.out (Nat.lt_succ_self w1.heap.size) s (p + (Utf8.decode s p).2)
      have hl := isVowel_any Bm k D ls (Utf8.decode s p).1 _ (HM.out.aft af1) hwf1
      clear HE HOWN
      generalize wr.iterAt w1.heap.size s (p + (Utf8.decode s p).2) = wi at *
      generalize Utf8.decode s p = ds at *
      have HSN := Lib.hid (nuc_snoc ls rs ds.1 0)
      cases hh : vowB ls ds.1
      · rw [hh] at hl
        have HH := Lib.hid hh
        have HE := Lib.hid he1
        have HI := Lib.hid it1
        have HO := Lib.hid hown1
        clear he1 it1 hh hown1
        go_wp2_with fail
        refine hl.mono ?_
        rintro e w2 ⟨rfl, rfl⟩
        clear hl
        go_wp2
        go_roundw
        case rel => exact ⟨p + ds.2, b, rs ++ [(ds.1 : Int)], HI.out, by simp, by rw [HSN.out, HH.out]; simpa using HO.out, by rw [HE.out]; simp, by omega, by simp; omega, by omega, af1⟩
        case measure =>
          simp only [World.iterPos, HI.out, hit]
          omega
      · rw [hh] at hl
        have HH := Lib.hid hh
        have HE := Lib.hid he1
        have HI := Lib.hid it1
        have HO := Lib.hid hown1
        have HIT := Lib.hid hit
        clear he1 it1 hh hown1
        go_wp2_with fail
        refine hl.mono ?_
        rintro e w2 ⟨rfl, rfl⟩
        clear hl
        go_wp2_with (at_builtin; refine wpList_append_own _ rfl _ _ 30 rfl (w1.heap.size + 1) 3 i0 _ 1 8 Tryd.underlying30 hi hz0 hz1 hz2 rfl (by decide) _ _ _ rfl (HO.out.alloc _) ⟨wi.heap.size, 0, none⟩ 1 1 [vI (rs.length : Nat)] rfl rfl (one_val _ _ _ _ rfl) (oneI _) (by unfold maxLen; omega) (by omega) (by simp; omega) ?_; intro v' w3 own2 grow2 _)
        have hit2 : w3.heap[w1.heap.size]? = some (.stringIter s (p + ds.2)) := iter_grown HI.out HO.out grow2
        have hrel : ∀ V, v' = V → ∃ (p_1 b_1 : Nat) (rs_1 : List Int), w3.heap[w1.heap.size]? = some (.stringIter s p_1) ∧ Value.int .i64 ((rs.length : Int) + 1) = .int .i64 (rs_1.length : Nat) ∧ w3.ownsRow (w1.heap.size + 1) 3 1 V (nuc ls rs_1 0).length ((natI (nuc ls rs_1 0)).map vI) ∧ runesOf s = rs_1 ++ runesL s b_1 p_1 ∧ s.size ≤ p_1 + b_1 ∧ rs_1.length ≤ p_1 ∧ p_1 ≤ s.size ∧ Aft w1 w3 := by
          rintro V rfl
          refine ⟨p + ds.2, b, rs ++ [(ds.1 : Int)], hit2, by simp, ?_, by rw [HE.out]; simp, by omega, by simp; omega, by omega, (af1.alloc _).grown grow2 (fun k e => by have := (HO.out.lt k e).1; omega)⟩
          rw [HSN.out, HH.out]
          simpa [natI] using own2
        have HR := Lib.hid hrel
        clear hrel
        obtain ⟨g', cap', rfl⟩ := row_succ own2
        clear own2 grow2
        go_wp2
        go_roundw
        case rel => exact HR.out _ rfl
        case measure =>
          simp only [World.iterPos, hit2, HIT.out]
          omega
    · have hnx := fun ty => Lib.run_next_end_at (P := Tryd.prog) wr w1.heap.size s p ty hit hlt
      obtain ⟨A3, c3, rfl, s3⟩ := Rw.of_row HOWN.out (natI_length _)
      have he1 : runesOf s = rs := by rw [HE.out, runesL_end hlt]; simp
      have H2 := Lib.hid he1
      clear he1 HE
      go_wp2
      go_ret
      exact ⟨⟨_, _, _, rfl, by rw [H2.out]; exact s3⟩, A1.trans haf⟩
end Go.Proofs.YtfjfgjncmliadaaDoor
