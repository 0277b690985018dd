/-
  slices.Index and slices.Contains at strings, distinctNames and validDimensions. Conditions: the slices hold the strings and the dimensions, none of which is too long.
-/
import Derived.Test.YtallloempmmgpaaAllBase
namespace Go.Proofs.Ytallloempmmgpaa
open Go.RowKit
open FeatPlain

def IdxsPost (w : World) (r : Bool) (e : Ending) (w' : World) : Prop := (∃ k : Int, e = .returned (.int .i64 k) ∧ ((r = true ∧ 0 ≤ k) ∨ (r = false ∧ k = -1))) ∧ w = w'
set_option maxHeartbeats 800000 in
theorem indexS_any (A : Option Addr) (n c : Nat) (ss : List ByteArray) (s : ByteArray) (w : World) (ha : Ss w A n c ss) :
    Calls Try.prog 44 #[.slice A n c, .string s] w (IdxsPost w (inB ss s)) := by
  have hn := ha.max
  have hnc := ha.le
  have hlen := Lib.hid ha.len
  go_enter Try.func44, Try.ntmps44
  go_wp2
  go_loopw [8] (fun i wr => ∃ k, k ≤ n ∧ i = .int .i64 (k : Nat) ∧ inB ss s = inB (ss.drop k) s ∧ w = wr) (fun i _ => n - (intOf i).toNat)
  case atStart => exact ⟨0, Nat.zero_le _, rfl, rfl, rfl⟩
  case round =>
    obtain ⟨k, hk, rfl, he, rfl⟩ := hrel
    have HE := Lib.hid he
    clear he
    by_cases hlt : k < n
    · obtain ⟨b, off, t, rfl, hf, c1⟩ := ha.at_ hlt
      have HF := Lib.hid (drop_of_get hf)
      clear hf
      by_cases hq : s = t
      · subst hq
        go_wp2
        go_ret
        exact ⟨⟨_, rfl, .inl ⟨by rw [HE.out, HF.out, inB_cons]; simp, by omega⟩⟩, rfl⟩
      · have hq' : (s.toList == t.toList) = false := by rw [toList_beq]; simp [hq]
        go_wp2
        go_roundw
        case rel => exact ⟨k + 1, by omega, by go_num, by rw [HE.out, HF.out, inB_cons]; simp [Ne.symm hq], by trivial⟩
        case measure => simp [intOf]; omega
    · obtain rfl : k = n := by omega
      go_wp2
      go_ret
      exact ⟨⟨_, rfl, .inr ⟨by rw [HE.out, List.drop_of_length_le (by rw [hlen.out]; exact Nat.le_refl _)]; rfl, rfl⟩⟩, rfl⟩

theorem containsS_any (A : Option Addr) (n c : Nat) (ss : List ByteArray) (s : ByteArray) (w : World) (ha : Ss w A n c ss) :
    Calls Try.prog 39 #[.slice A n c, .string s] w (SamePost w (inB ss s)) := by
  have h1 := indexS_any A n c ss s w ha
  generalize inB ss s = r at *
  go_enter Try.func39, Try.ntmps39
  go_wp2_with fail
  refine h1.mono ?_
  rintro e w1 ⟨⟨k, rfl, hk⟩, rfl⟩
  clear h1
  rcases hk with ⟨rfl, hk⟩ | ⟨rfl, rfl⟩
  · go_wp2
    go_ret
    exact ⟨by first | rfl | simp [hk], rfl⟩
  · go_wp2
    go_ret
    exact ⟨by first | rfl | simp, rfl⟩

theorem Ss.first {w : World} {A : Option Addr} {n c k : Nat} {ss : List ByteArray} (h : Ss w A n c ss) (hk : k ≤ n) : Ss w A k c (ss.take k) := by
  have hl := h.len
  have hle := h.le
  have hm := h.max
  refine ⟨by rw [List.length_take]; omega, by omega, by omega, h.cmax, h.nl, fun i s hi => ?_⟩
  rw [List.getElem?_take] at hi
  split at hi
  · exact h.cells i s hi
  · cases hi

theorem distB_iff (l : List ByteArray) : distB l = true ↔ (∀ s ∈ l, isName s = true) ∧ l.Nodup := by simp [distB]
theorem inB_iff (l : List ByteArray) (s : ByteArray) : inB l s = true ↔ s ∈ l := by simp [inB]
theorem distB_snoc (l : List ByteArray) (s : ByteArray) : distB (l ++ [s]) = (distB l && (isName s && !inB l s)) := by
  rw [Bool.eq_iff_iff, distB_iff, Bool.and_eq_true, distB_iff, Bool.and_eq_true, Bool.not_eq_true', ← Bool.not_eq_true, inB_iff, List.nodup_append]
  constructor
  · rintro ⟨h1, h2, _, h3⟩
    exact ⟨⟨fun x hx => h1 x (by simp [hx]), h2⟩, h1 s (by simp), fun hs => h3 s hs s (by simp) rfl⟩
  · rintro ⟨⟨h1, h2⟩, h3, h4⟩
    refine ⟨fun x hx => ?_, h2, by simp, fun a ha b hb e => ?_⟩
    · rcases List.mem_append.1 hx with hx | hx
      · exact h1 x hx
      · rw [List.mem_singleton.1 hx]; exact h3
    · rw [List.mem_singleton.1 hb] at e
      exact h4 (e ▸ ha)
theorem distB_pre : ∀ (l m : List ByteArray), distB l = false → distB (l ++ m) = false
  | l, [], h => by simpa using h
  | l, s :: m, h => by
    have := distB_pre (l ++ [s]) m (by rw [distB_snoc, h]; rfl)
    simpa using this

set_option maxRecDepth 100000 in
set_option maxHeartbeats 800000 in
theorem distinct_any (A : Option Addr) (n c : Nat) (ss : List ByteArray) (w : World) (ha : Ss w A n c ss) (hz : ∀ s ∈ ss, s.size ≤ maxLen) :
    Calls Try.prog 31 #[.slice A n c] w (SamePost w (distB ss)) := by
  have hn := ha.max
  have hnc := ha.le
  have hcm := ha.cmax
  have hlen := Lib.hid ha.len
  go_enter Try.func31, Try.ntmps31
  go_wp2
  go_loopw [7] (fun i wr => ∃ k, k ≤ n ∧ i = .int .i64 (k : Nat) ∧ distB (ss.take k) = true ∧ w = wr) (fun i _ => n - (intOf i).toNat)
  case atStart => exact ⟨0, Nat.zero_le _, rfl, rfl, rfl⟩
  case round =>
    obtain ⟨k, hk, rfl, he, rfl⟩ := hrel
    have HE := Lib.hid he
    clear he
    by_cases hlt : k < n
    · obtain ⟨b, off, s, rfl, hf, c1⟩ := ha.at_ hlt
      have hsz := hz s (List.mem_of_getElem? hf)
      have hst := take_next hf
      have hd1 := distB_snoc (ss.take k) s
      rw [← hst, HE.out] at hd1
      have hI := isName_any s w hsz
      have hC := containsS_any (some ⟨b, off, none⟩) k c (ss.take k) s w (ha.first hk)
      have hbad : distB (ss.take (k + 1)) = false → distB ss = false := fun h => by
        have := distB_pre _ (ss.drop (k + 1)) h
        rwa [List.take_append_drop] at this
      have HB := Lib.hid hbad
      have HD := Lib.hid hd1
      clear hbad hd1 hst
      cases hi : isName s
      · rw [hi] at hI HD
        go_wp2_with fail
        refine hI.mono ?_
        rintro e w1 ⟨rfl, rfl⟩
        clear hI hC
        go_wp2
        go_ret
        exact ⟨by rw [HB.out (by rw [HD.out]; rfl)]; rfl, rfl⟩
      · cases hc : inB (ss.take k) s
        · rw [hi] at hI HD
          rw [hc] at hC HD
          have c2 : (k : Int) ≤ (c : Int) := by omega
          go_wp2_with fail
          refine hI.mono ?_
          rintro e w1 ⟨rfl, rfl⟩
          clear hI
          go_wp2_with fail
          refine hC.mono ?_
          rintro e w1 ⟨rfl, rfl⟩
          clear hC
          go_wp2
          go_roundw
          case rel => exact ⟨k + 1, by omega, by go_num, by rw [HD.out]; rfl, by trivial⟩
          case measure => simp [intOf]; omega
        · rw [hi] at hI HD
          rw [hc] at hC HD
          have c2 : (k : Int) ≤ (c : Int) := by omega
          go_wp2_with fail
          refine hI.mono ?_
          rintro e w1 ⟨rfl, rfl⟩
          clear hI
          go_wp2_with fail
          refine hC.mono ?_
          rintro e w1 ⟨rfl, rfl⟩
          clear hC
          go_wp2
          go_ret
          exact ⟨by rw [HB.out (by rw [HD.out]; rfl)]; rfl, rfl⟩
    · obtain rfl : k = n := by omega
      have he := HE.out
      rw [List.take_of_length_le (by rw [hlen.out]; exact Nat.le_refl _)] at he
      have H2 := Lib.hid he
      clear he
      go_wp2
      go_ret
      exact ⟨by rw [H2.out]; rfl, rfl⟩
end Go.Proofs.Ytallloempmmgpaa
