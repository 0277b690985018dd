/-
  The reference's Rejoin returns the word without its hyphens. Conditions: the word has at most 2000 bytes.
-/
import Derived.Test.YtfjfgjncmliadaaDoorSylHyp
import Derived.Lib.LazyBuf
namespace Go.Proofs.YtfjfgjncmliadaaDoor
open Go.RowKit
open AlphPlain

/-- The bytes without hyphens. -/
def noHy (l : List UInt8) : List UInt8 := l.filter fun b => !decide (b = 45)
theorem noHy_snoc_yes (l : List UInt8) {b : UInt8} (h : b = 45) : noHy (l ++ [b]) = noHy l := by simp [noHy, h]
theorem noHy_snoc_no (l : List UInt8) {b : UInt8} (h : b ≠ 45) : noHy (l ++ [b]) = noHy l ++ [b] := by simp [noHy, h]
def noHyB (s : ByteArray) : ByteArray := ⟨(noHy s.data.toList).toArray⟩
theorem bytes_conv {w : World} {base n : Nat} {v : Value} {l : List UInt8} (h : w.ownsRow base 5 1 v n (Lib.byteCells l)) : (convert 71 9 v).run Tryd.prog w = .ok (.string ⟨l.toArray⟩) w := by
  have hl : l.length = n := by have := h.1; rw [Lib.byteCells_length] at this; omega
  rcases h.2 with ⟨rfl, rfl⟩ | ⟨g, cap, cur, rfl, _, _, hle, hc, _⟩
  · have : l = [] := List.length_eq_zero_iff.1 hl
    subst this
    exact run_convert_bytes_nil w _ _ Tryd.underlying71 Tryd.underlying5 0 0 _ Tryd.underlying9
  · rw [← Lib.Lz.strOfNums_map l]
    refine run_convert_bytes_arg w _ _ Tryd.underlying71 Tryd.underlying5 g 0 n cap _ (by simp [hl]) (fun i hi => ?_) _ Tryd.underlying9
    have hil : i < l.length := by omega
    have hj : (Lib.byteCells l)[i]? = some (.int .u8 (l[i]).toNat) := by unfold Lib.byteCells; rw [List.getElem?_map, List.getElem?_eq_getElem hil]; rfl
    have := h.cells (g := g) rfl i _ hj
    rw [Addr.add_lit] at this
    rw [this]
    simp [List.getD, List.getElem?_map, List.getElem?_eq_getElem hil]

set_option maxRecDepth 100000 in
set_option maxHeartbeats 1600000 in
theorem refRejoin_any (s : ByteArray) (w : World) (hs : s.size ≤ 2000) :
    Calls Tryd.prog 31 #[.string s] w (StrPost w (noHyB s)) := by
  obtain ⟨i0, hi, hz0, hz1, hz2⟩ := info_parts Tryd.infoByte
  have own0 : (w.alloc (.cells #[] 5)).ownsRow w.heap.size 5 1 (.slice (some ⟨w.heap.size, 0, none⟩) 0 0) 0 [] := World.ownsRow_lit w #[] 0 (Nat.le_refl _) (by unfold maxLen; omega) rfl
  have HO0 := Lib.hid own0
  clear own0
  go_enter Tryd.func31, Tryd.ntmps31
  go_wp2
  go_loopw [3, 4] (fun v i wr => ∃ (k q : Nat) (l : List UInt8), k ≤ s.size ∧ q ≤ k ∧ i = .int .i64 (k : Nat) ∧ l = noHy (s.data.toList.take k) ∧ wr.ownsRow w.heap.size 5 1 v q (Lib.byteCells l) ∧ Aft w wr) (fun _ i _ => s.size - (intOf i).toNat)
  case atStart => exact ⟨0, 0, [], Nat.zero_le _, Nat.le_refl _, rfl, rfl, HO0.out, (Aft.refl w).alloc _⟩
  case round =>
    obtain ⟨k, q, l, hk, hq, rfl, hl, own, haf⟩ := hrel
    have HL := Lib.hid hl
    have HO := Lib.hid own
    have hsz := haf.size
    clear hl own
    by_cases hlt : k < s.size
    · have hlt' : (k : Int) < (s.size : Int) := by omega
      have hget : s.data.toList[k]? = some s[k] := by rw [List.getElem?_eq_getElem (by simpa using hlt)]; rfl
      by_cases he : s[k] = 45
      · have b1 : ((s[k].toNat : Int) == 45) = true := by rw [he]; rfl
        have b2 : ((s[k].toNat : Int) != 45) = false := by rw [he]; rfl
        have HN := Lib.hid (show l = noHy (s.data.toList.take (k + 1)) by rw [take_next hget, noHy_snoc_yes _ he]; exact HL.out)
        clear hget he
        go_wp2
        go_roundw
        case rel => exact ⟨k + 1, q, l, by omega, by omega, by go_num, HN.out, HO.out, haf⟩
        case measure => simp [intOf]; omega
      · have hne : (s[k].toNat : Int) ≠ 45 := fun e => he (UInt8.toNat_inj.1 (show s[k].toNat = 45 by omega))
        have b1 : ((s[k].toNat : Int) == 45) = false := by simpa using hne
        have b2 : ((s[k].toNat : Int) != 45) = true := by simpa using hne
        have HN := Lib.hid (show l ++ [s[k]] = noHy (s.data.toList.take (k + 1)) by rw [take_next hget, noHy_snoc_no _ he, ← HL.out])
        have hbc : Lib.byteCells (l ++ [s[k]]) = Lib.byteCells l ++ [.int .u8 (s[k].toNat : Int)] := Lib.byteCells_append l [s[k]]
        have HBC := Lib.hid hbc
        clear hget he hne hbc
        go_wp2_with (at_builtin; refine wpList_append_own _ rfl _ _ 71 rfl w.heap.size 5 i0 _ 1 1 Tryd.underlying71 hi hz0 hz1 hz2 rfl (by decide) _ _ _ rfl (HO.out.alloc _) ⟨wr.heap.size, 0, none⟩ 1 1 [.int .u8 (s[k].toNat : Int)] rfl rfl (one_val _ _ _ _ rfl) (by intro u hu; simp at hu; subst hu; rfl) (by unfold maxLen; omega) (by omega) (by simp; omega) ?_; intro v' w2 own2 grow2 _)
        have hrel : ∀ V, v' = V → ∃ (k_1 q_1 : Nat) (l_1 : List UInt8), k_1 ≤ s.size ∧ q_1 ≤ k_1 ∧ Value.int .i64 ((k : Int) + 1) = .int .i64 (k_1 : Nat) ∧ l_1 = noHy (s.data.toList.take k_1) ∧ w2.ownsRow w.heap.size 5 1 V q_1 (Lib.byteCells l_1) ∧ Aft w w2 := by
          rintro V rfl
          exact ⟨k + 1, q + 1, l ++ [s[k]], by omega, by omega, by simp, HN.out, by rw [HBC.out]; exact own2, (haf.alloc _).grown grow2 (fun j e => (HO.out.lt j e).1)⟩
        go_roundw
        case rel => exact hrel _ rfl
        case measure => simp [intOf]; omega
    · have hkN : k = s.size := by omega
      have hlt' : ¬ (k : Int) < (s.size : Int) := by omega
      have HE := Lib.hid (show (⟨l.toArray⟩ : ByteArray) = noHyB s by unfold noHyB; rw [HL.out, hkN, List.take_of_length_le (by simp)])
      have hcv := bytes_conv HO.out
      clear hkN
      go_wp2
      go_ret
      exact ⟨by rw [← HE.out]; rfl, haf⟩
end Go.Proofs.YtfjfgjncmliadaaDoor
