/-
  strings.Replace of the hyphen by nothing returns the word without its hyphens. Condition: the word has at most 2000 bytes.
-/
import Derived.Test.YtfjfgjncmliadaaDoorSylRepl
namespace Go.Proofs.YtfjfgjncmliadaaDoor
open Go.RowKit
open AlphPlain

theorem noHy_app (a b : List UInt8) : noHy (a ++ b) = noHy a ++ noHy b := List.filter_append _ _
theorem noHy_len (l : List UInt8) : (noHy l).length ≤ l.length := List.length_filter_le _ _
theorem noHy_free {l : List UInt8} (h : ∀ k : Nat, l[k]? ≠ some 45) : noHy l = l := by
  refine List.filter_eq_self.2 fun b hb => ?_
  obtain ⟨k, hk⟩ := List.mem_iff_getElem?.1 hb
  by_cases e : b = 45
  · subst e
    exact absurd hk (h k)
  · simp [e]
theorem count_free {l : List UInt8} (h : ∀ k : Nat, l[k]? ≠ some 45) : l.count 45 = 0 := by
  refine List.count_eq_zero.2 fun hm => ?_
  obtain ⟨k, hk⟩ := List.mem_iff_getElem?.1 hm
  exact h k hk
theorem free_count {l : List UInt8} (h : l.count 45 = 0) : noHy l = l := by
  refine noHy_free fun k hk => ?_
  exact List.count_eq_zero.1 h (List.mem_iff_getElem?.2 ⟨k, hk⟩)
theorem hy_found {l : List UInt8} (h : 0 < l.count 45) : ∃ j : Nat, Lib.indexByte l 45 = (j : Int) ∧ l[j]? = some 45 ∧ ∀ k : Nat, k < j → l[k]? ≠ some 45 := by
  have hge := Lib.indexByte_ge l 45
  by_cases e : Lib.indexByte l 45 = -1
  · have := count_free (Lib.indexByte_none e)
    omega
  · obtain ⟨j, hj⟩ : ∃ j : Nat, Lib.indexByte l 45 = (j : Int) := ⟨(Lib.indexByte l 45).toNat, by omega⟩
    exact ⟨j, hj, Lib.indexByte_some hj⟩
theorem take_free {l : List UInt8} {j : Nat} (h : ∀ k : Nat, k < j → l[k]? ≠ some 45) : ∀ k : Nat, (l.take j)[k]? ≠ some 45 := by
  intro k hk
  rw [List.getElem?_take] at hk
  split at hk
  · exact h k (by assumption) hk
  · cases hk
theorem hit_noHy {l : List UInt8} {j : Nat} (hj : l[j]? = some 45) (h : ∀ k : Nat, k < j → l[k]? ≠ some 45) : noHy (l.take (j + 1)) = l.take j := by
  rw [take_next hj, noHy_snoc_yes _ rfl, noHy_free (take_free h)]
theorem hit_count {l : List UInt8} {j : Nat} (hj : l[j]? = some 45) (h : ∀ k : Nat, k < j → l[k]? ≠ some 45) : l.count 45 = (l.drop (j + 1)).count 45 + 1 := by
  have e : l.count 45 = (l.take (j + 1) ++ l.drop (j + 1)).count 45 := by rw [List.take_append_drop]
  rw [e, List.count_append, take_next hj, List.count_append, count_free (take_free h)]
  simp
  omega

set_option maxHeartbeats 4000000 in
set_option maxRecDepth 100000 in
theorem replace_hy (s : ByteArray) (w : World) (hs : s.size ≤ 2000) :
    Calls Tryd.prog 68 #[.string s, .string ⟨#[45]⟩, .string ⟨#[]⟩, .int .i64 (-1)] w (StrPost w (noHyB s)) := by
  have hC := Tryd.strings_Count_one s 45 w
  have hbeq : ((⟨#[45]⟩ : ByteArray).toList == (⟨#[]⟩ : ByteArray).toList) = false := by simp
  obtain ⟨K, hK⟩ : ∃ K : Nat, s.data.toList.count 45 = K := ⟨_, rfl⟩
  have hKs : K ≤ s.size := by rw [← hK]; have := List.count_le_length (a := (45 : UInt8)) (l := s.data.toList); simpa using this
  rw [show Lib.countByte s.data.toList 45 = K from hK] at hC
  have HK := Lib.hid hK
  clear hK
  by_cases hK0 : K = 0
  · subst hK0
    have HE := Lib.hid (show s = noHyB s by unfold noHyB; rw [free_count HK.out])
    go_enter Tryd.func68, Tryd.ntmps68
    go_wp2_with fail
    refine hC.mono ?_
    rintro e w' ⟨rfl, rfl⟩
    clear hC
    go_wp2
    go_ret
    exact ⟨by rw [← HE.out]; rfl, Aft.refl _⟩
  · have hK1 : ¬ (K : Int) = 0 := by omega
    go_enter Tryd.func68, Tryd.ntmps68
    go_wp2_with fail
    refine hC.mono ?_
    rintro e w' ⟨rfl, rfl⟩
    clear hC
    have hga : (s.size : Int) + -(K : Int) = ((s.size - K : Nat) : Int) := by omega
    go_wp2_with fail
    refine (grow_any w'.heap.size w'.heap.size (s.size - K) (w'.alloc _) (Nat.le_refl _) (heap_alloc_new w' _) (by simp) (by omega)).mono ?_
    rintro e w1 ⟨rfl, hb0, hb1⟩
    have H1 := Lib.hid (show Bld w'.heap.size w'.heap.size (Lib.byteCells []) w1 from hb0)
    have A1 : Aft w' w1 := ((Below.refl w'.heap.size w').alloc (Nat.le_refl _) _).trans hb1
    clear hb0 hb1 hga
    go_wp2
    go_loopw [11, 53] (fun st i wr => ∃ (k p : Nat) (acc : List UInt8), i = .int .i64 (k : Nat) ∧ st = .int .i64 (p : Nat) ∧ p ≤ s.size ∧ acc = noHy (s.data.toList.take p) ∧ (s.data.toList.drop p).count 45 + k = K ∧ Bld w'.heap.size w'.heap.size (Lib.byteCells acc) wr ∧ Aft w' wr) (fun _ i _ => K - (intOf i).toNat)
    case atStart => exact ⟨0, 0, [], rfl, rfl, Nat.zero_le _, rfl, HK.out, H1.out, A1⟩
    case round =>
      obtain ⟨k, p, acc, rfl, rfl, hp, hacc, hcnt, hB, haf⟩ := hrel
      have HA := Lib.hid hacc
      have HB := Lib.hid hB
      have HC := Lib.hid hcnt
      have hBw := haf.size
      have hal : (Lib.byteCells acc).length ≤ 2000 := by
        rw [Lib.byteCells_length, hacc]
        have h1 := noHy_len (s.data.toList.take p)
        rw [List.length_take] at h1
        omega
      have c0 : (0 : Int) ≤ (p : Int) := by omega
      have c1 : (p : Int) ≤ (s.size : Int) := by omega
      clear hacc hB hcnt
      by_cases hlt : k < K
      · have hlt' : (k : Int) < (K : Int) := by omega
        obtain ⟨j, hj0, hj1, hj2⟩ := hy_found (l := s.data.toList.drop p) (by have := HC.out; omega)
        have hI : ∀ w0, Calls Tryd.prog 78 #[.string (s.extract p s.size), .string ⟨#[45]⟩] w0 (fun e w' => e = .returned (.int .i64 (j : Nat)) ∧ w' = w0) := fun w0 => by
          have h := Tryd.strings_Index_one (s.extract p s.size) 45 w0
          rw [Lib.extract_to_end, hj0] at h
          exact h
        have hjl : p + j < s.size := by
          have h := (List.getElem?_eq_some_iff.1 hj1).1
          rw [List.length_drop] at h
          simp at h
          omega
        have c2 : (p : Int) + (j : Int) ≤ (s.size : Int) := by omega
        have c3 : (p : Int) ≤ (p : Int) + (j : Int) := by omega
        have HN := Lib.hid (show acc ++ (s.data.toList.drop p).take j = noHy (s.data.toList.take (p + j + 1)) by
          rw [show p + j + 1 = p + (j + 1) by omega, List.take_add, noHy_app, ← HA.out, hit_noHy hj1 hj2])
        have HC2 := Lib.hid (show (s.data.toList.drop (p + j + 1)).count 45 + (k + 1) = K by
          have h := hit_count hj1 hj2
          rw [List.drop_drop] at h
          have h2 := HC.out
          rw [show p + j + 1 = p + (j + 1) by omega]
          omega)
        have HSC := Lib.hid (show Lib.strCells (s.extract p (p + j)) = Lib.byteCells ((s.data.toList.drop p).take j) by rw [Lib.strCells_eq, Lib.extract_data, Nat.add_sub_cancel_left])
        have hex : (s.extract p (p + j)).size ≤ 2000 := by rw [ByteArray.size_extract]; omega
        clear hj0 hj1 hj2
        go_wp2_with fail
        refine (hI _).mono ?_
        rintro e w2 ⟨rfl, rfl⟩
        clear hI
        go_wp2_with fail
        refine (writeString_any w'.heap.size w'.heap.size _ (s.extract p (p + j)) _ HB.out (by omega) hBw).mono ?_
        rintro e w3 ⟨rfl, h3, hb3, _⟩
        rw [HSC.out, ← byteCells_app] at h3
        have H3 := Lib.hid h3
        have A3 : Aft w' w3 := Below.trans haf hb3
        have hBw3 := A3.size
        have hal3 : (Lib.byteCells (acc ++ (s.data.toList.drop p).take j)).length ≤ 4000 := by
          rw [Lib.byteCells_length, List.length_append, List.length_take]
          rw [Lib.byteCells_length] at hal
          omega
        clear h3 hb3 hex
        go_wp2_with fail
        refine (writeString_any w'.heap.size w'.heap.size _ ⟨#[]⟩ w3 (.inr H3.out) (by show _ + 0 ≤ _; omega) hBw3).mono ?_
        rintro e w4 ⟨rfl, h4, hb4, _⟩
        rw [show Lib.strCells ⟨#[]⟩ = [] from rfl, List.append_nil] at h4
        have H4 := Lib.hid h4
        have A4 : Aft w' w4 := Below.trans A3 hb4
        clear h4 hb4
        go_wp2
        go_roundw
        case rel => exact ⟨k + 1, p + j + 1, _, by go_num, by go_num, by omega, HN.out, HC2.out, .inr H4.out, A4⟩
        case measure => simp [intOf]; omega
      · have hkK : k = K := by have := HC.out; omega
        have hlt' : ¬ (k : Int) < (K : Int) := by omega
        have HE := Lib.hid (show acc ++ s.data.toList.drop p = noHy s.data.toList by
          have h := HC.out
          have h2 : noHy (s.data.toList.take p ++ s.data.toList.drop p) = noHy s.data.toList := by rw [List.take_append_drop]
          rw [← h2, noHy_app, ← HA.out, free_count (l := s.data.toList.drop p) (by omega)])
        have hex : (s.extract p s.size).size ≤ 2000 := by rw [ByteArray.size_extract]; omega
        clear hkK
        go_wp2_with fail
        refine (writeString_any w'.heap.size w'.heap.size _ (s.extract p s.size) wr HB.out (by omega) hBw).mono ?_
        rintro e w3 ⟨rfl, h3, hb3, _⟩
        rw [Lib.strCells_eq, Lib.extract_to_end, ← byteCells_app, HE.out] at h3
        have H3 := Lib.hid h3
        have A3 : Aft w' w3 := Below.trans haf hb3
        have hBw3 := A3.size
        clear h3 hb3 hex
        go_wp2_with fail
        refine (Tryd.Builder_String_any_k w'.heap.size w'.heap.size _ w3 (.inr H3.out) hBw3).mono ?_
        rintro e w4 ⟨rfl, _, hb4, _⟩
        go_wp2
        go_ret
        exact ⟨rfl, Below.trans A3 hb4⟩
end Go.Proofs.YtfjfgjncmliadaaDoor
