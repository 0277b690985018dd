/-
  The reference's Hyphenate writes what the program's Hyphenate writes. Conditions: the slice holds at most 40 points; the word has at most 200 bytes.
-/
import Derived.Test.YtfjfgjncmliadaaDoorSylHyp
import Derived.Test.YtfjfgjncmliadaaDoorSylRef2
namespace Go.Proofs.YtfjfgjncmliadaaDoor
open Go.RowKit
open AlphPlain

theorem u8_of {x : Int} {n : Nat} (h : x.toNat = n) : x.toNat.toUInt8 = UInt8.ofNat n := by rw [h]
theorem enc_data (r : Int) : (Utf8.encode r).data.toList = Lib.encodeRune r := by
  by_cases hv : Utf8.valid r = true
  · have hr : (0 ≤ r ∧ r < 55296) ∨ (57344 ≤ r ∧ r ≤ 1114111) := by unfold Utf8.valid at hv; simp at hv; exact hv
    unfold Utf8.encode Lib.encodeRune
    simp only [hv, if_true]
    by_cases h1 : r.toNat < 128
    · rw [if_pos h1, Lib.encodeRuneZ_one (by omega) (by omega)]
      rfl
    rw [if_neg h1]
    by_cases h2 : r.toNat < 2048
    · rw [if_pos h2, Lib.encodeRuneZ_two (by omega) (by omega)]
      simp only [List.map_cons, List.map_nil]
      rw [u8_of (n := 192 + r.toNat / 64) (by omega), u8_of (n := 128 + r.toNat % 64) (by omega)]
    rw [if_neg h2]
    by_cases h3 : r.toNat < 65536
    · rw [if_pos h3, Lib.encodeRuneZ_three (by omega)]
      simp only [List.map_cons, List.map_nil]
      rw [u8_of (n := 224 + r.toNat / 4096) (by omega), u8_of (n := 128 + r.toNat / 64 % 64) (by omega), u8_of (n := 128 + r.toNat % 64) (by omega)]
    · rw [if_neg h3, Lib.encodeRuneZ_four (by omega) (by omega)]
      simp only [List.map_cons, List.map_nil]
      rw [u8_of (n := 240 + r.toNat / 262144) (by omega), u8_of (n := 128 + r.toNat / 4096 % 64) (by omega), u8_of (n := 128 + r.toNat / 64 % 64) (by omega), u8_of (n := 128 + r.toNat % 64) (by omega)]
  · have hr : r < 0 ∨ (55296 ≤ r ∧ r ≤ 57343) ∨ 1114111 < r := by unfold Utf8.valid at hv; simp at hv; omega
    unfold Utf8.encode Lib.encodeRune
    rw [Lib.encodeRuneZ_bad hr]
    simp only [hv, Bool.false_eq_true, if_false]
    decide
theorem enc_arr (r : Int) : (Utf8.encode r).data = (Lib.encodeRune r).toArray := by rw [← enc_data, Array.toArray_toList]

def hypS (zs rs : List Int) : ByteArray := ⟨(hypL zs rs 0).toArray⟩
theorem hypL_len (zs : List Int) : ∀ (rs : List Int) (i : Nat), (hypL zs rs i).length ≤ 5 * rs.length
  | [], _ => by simp [hypL]
  | r :: rs, i => by
    have h1 := hypL_len zs rs (i + 1)
    have h2 := enc_len r
    rw [hypL, List.length_append, List.length_append, List.length_cons]
    split <;> simp <;> omega
theorem hypS_size (zs rs : List Int) : (hypS zs rs).size ≤ 5 * rs.length := by
  have := hypL_len zs rs 0
  simpa [hypS, ByteArray.size] using this
theorem hypS_nil (zs : List Int) : hypS zs [] = ⟨#[]⟩ := rfl
theorem hypS_plain {zs rs : List Int} {k : Nat} {r : Int} (hr : rs[k]? = some r) (h : (decide (0 < k) && inI zs (k : Int)) = false) : hypS zs (rs.take (k + 1)) = hypS zs (rs.take k) ++ Utf8.encode r := by
  have hk : k < rs.length := (List.getElem?_eq_some_iff.1 hr).1
  have hl : (rs.take k).length = k := by rw [List.length_take]; omega
  unfold hypS
  rw [take_next hr, hypL_snoc, Nat.zero_add, hl, h]
  apply ByteArray.ext
  rw [ByteArray.data_append, enc_arr]
  simp
theorem hypS_cut {zs rs : List Int} {k : Nat} {r : Int} (hr : rs[k]? = some r) (h : (decide (0 < k) && inI zs (k : Int)) = true) : hypS zs (rs.take (k + 1)) = hypS zs (rs.take k) ++ ⟨#[45]⟩ ++ Utf8.encode r := by
  have hk : k < rs.length := (List.getElem?_eq_some_iff.1 hr).1
  have hl : (rs.take k).length = k := by rw [List.length_take]; omega
  unfold hypS
  rw [take_next hr, hypL_snoc, Nat.zero_add, hl, h]
  apply ByteArray.ext
  rw [ByteArray.data_append, ByteArray.data_append, enc_arr]
  simp
theorem enc_size (r : Int) : (Utf8.encode r).size ≤ 4 := by
  have h := enc_len r
  rw [← enc_data, Array.length_toList] at h
  exact h

set_option maxRecDepth 100000 in
set_option maxHeartbeats 1600000 in
theorem refHyph_any (s : ByteArray) (A : Option Addr) (n c : Nat) (zs : List Int) (w : World) (ha : Rw vI w A n c zs) (hs : s.size ≤ 200) :
    Calls Tryd.prog 29 #[.string s, .slice A n c] w (StrPost w (hyphB s zs)) := by
  have hac := ha.le
  have hcm := ha.cmax
  have hlen := Lib.hid ha.len
  have h1 := refUtf_any s hs w
  rw [utfB_valid] at h1
  have hrl : (runesOf s).length ≤ 200 := by have := size_runesFrom s s.size 0 #[]; rw [runes_size] at this; simp at this; omega
  cases hv : Lib.validD s.data.toList
  · rw [hv] at h1
    have HY := Lib.hid (show hyphB s zs = s by unfold hyphB; rw [hv]; rfl)
    clear hv
    go_enter Tryd.func29, Tryd.ntmps29
    go_wp2_with fail
    refine h1.mono ?_
    rintro e w1 ⟨rfl, A1⟩
    clear h1
    go_wp2
    go_ret
    exact ⟨by rw [HY.out]; rfl, A1⟩
  · rw [hv] at h1
    have HY := Lib.hid (show hyphB s zs = hypS zs (runesOf s) by unfold hyphB hypS; rw [hv]; rfl)
    clear hv
    go_enter Tryd.func29, Tryd.ntmps29
    go_wp2_with fail
    refine h1.mono ?_
    rintro e w1 ⟨rfl, A1⟩
    clear h1
    have hcv := conv_run s (by omega) w1
    have A2 := A1.trans (conv_aft s w1)
    have hrr := Lib.hid (conv_rr s w1)
    have hcc := conv_cap s w1 (by omega)
    have ha2 := Lib.hid (ha.aft A2)
    have hle := hrr.out.le
    clear ha A1
    generalize convW s w1 = w2 at *
    generalize convC s w1 = C at *
    generalize (some ⟨w1.heap.size, 0, none⟩ : Option Addr) = RA at *
    go_wp2
    go_loopw [5, 18] (fun sv i wr => ∃ (k : Nat) (SB : ByteArray), k ≤ (runesOf s).length ∧ i = .int .i64 (k : Nat) ∧ sv = .string SB ∧ SB = hypS zs ((runesOf s).take k) ∧ Aft w2 wr) (fun _ i _ => (runesOf s).length - (intOf i).toNat)
    case atStart => exact ⟨0, ⟨#[]⟩, Nat.zero_le _, rfl, rfl, rfl, Aft.refl _⟩
    case round =>
      obtain ⟨k, SB, hk, rfl, rfl, hSB, haf⟩ := hrel
      have HSB := Lib.hid hSB
      have hSs : SB.size ≤ 1000 := by
        have h2 := hypS_size zs ((runesOf s).take k)
        rw [List.length_take] at h2
        rw [hSB]
        omega
      clear hSB
      by_cases hlt : k < (runesOf s).length
      · obtain ⟨b, off, r, rfl, hr, g1⟩ := hrr.out.at_ hlt
        have c1 := haf.cell g1
        have HR := Lib.hid hr
        have hki : (k : Int) < ((runesOf s).length : Int) := by omega
        have hen := enc_size r
        clear hr g1
        go_wp2
        go_loopw [8, 25] (fun bv i ws => ∃ (j : Nat) (hb : Bool), j ≤ n ∧ i = .int .i64 (j : Nat) ∧ bv = .bool hb ∧ hb = inI (zs.take j) (k : Int) ∧ Aft w2 ws) (fun _ i _ => n - (intOf i).toNat)
        case atStart => exact ⟨0, false, Nat.zero_le _, rfl, rfl, rfl, haf⟩
        case round =>
          clear haf c1
          obtain ⟨j, hb, hj, rfl, rfl, hbe, haf⟩ := hrel
          have HB := Lib.hid hbe
          clear hbe
          by_cases hjn : j < n
          · obtain ⟨b2, off2, z, rfl, hz, g2⟩ := ha2.out.at_ hjn
            have c2 := haf.cell g2
            have HN := Lib.hid (show inI (zs.take (j + 1)) (k : Int) = (inI (zs.take j) (k : Int) || decide (z = (k : Int))) by rw [take_next hz, inI_snoc])
            have hji : (j : Int) < (n : Int) := by omega
            clear hz g2
            cases hb
            · go_wp2
              go_roundw
              case rel => exact ⟨j + 1, decide (z = (k : Int)), by omega, by go_num, by first | rfl | simp, by rw [HN.out, ← HB.out, Bool.false_or], haf⟩
              case measure => simp [intOf]; omega
            · go_wp2
              go_roundw
              case rel => exact ⟨j + 1, true, by omega, by go_num, rfl, by rw [HN.out, ← HB.out, Bool.true_or], haf⟩
              case measure => simp [intOf]; omega
          · obtain rfl : j = n := by omega
            have hji : ¬ (j : Int) < (j : Int) := by omega
            have HB2 := Lib.hid (show hb = inI zs (k : Int) by rw [HB.out, List.take_of_length_le (by rw [hlen.out]; exact Nat.le_refl _)])
            cases hb
            · have HS := Lib.hid (hypS_plain (zs := zs) HR.out (by rw [← HB2.out, Bool.and_false]))
              have hz1 : ¬ 9223372036854775807 < SB.size + (Utf8.encode r).size := by omega
              go_wp2
              go_roundw
              case rel => exact ⟨k + 1, _, by omega, by go_num, rfl, by rw [HS.out, ← HSB.out], haf⟩
              case measure => simp [intOf]; omega
            · by_cases hk0 : 0 < k
              · have HS := Lib.hid (hypS_cut (zs := zs) HR.out (by rw [← HB2.out, decide_eq_true hk0]; rfl))
                have hk0' : (0 : Int) < (k : Int) := by omega
                have hz0 : (⟨#[45]⟩ : ByteArray).size = 1 := rfl
                have hz1 : ¬ 9223372036854775807 < SB.size + (⟨#[45]⟩ : ByteArray).size := by omega
                have hz2 : ¬ 9223372036854775807 < (SB ++ (⟨#[45]⟩ : ByteArray)).size + (Utf8.encode r).size := by rw [ByteArray.size_append]; omega
                have hz3 : ¬ 9223372036854775807 < SB.size + (⟨#[45]⟩ : ByteArray).size + (Utf8.encode r).size := by omega
                clear hz0
                go_wp2
                go_roundw
                case rel => exact ⟨k + 1, _, by omega, by go_num, rfl, by rw [HS.out, ← HSB.out], haf⟩
                case measure => simp [intOf]; omega
              · have HS := Lib.hid (hypS_plain (zs := zs) HR.out (by rw [decide_eq_false hk0]; rfl))
                have hk0' : ¬ (0 : Int) < (k : Int) := by omega
                have hz1 : ¬ 9223372036854775807 < SB.size + (Utf8.encode r).size := by omega
                go_wp2
                go_roundw
                case rel => exact ⟨k + 1, _, by omega, by go_num, rfl, by rw [HS.out, ← HSB.out], haf⟩
                case measure => simp [intOf]; omega
      · have hkN : k = (runesOf s).length := by omega
        have hki : ¬ (k : Int) < ((runesOf s).length : Int) := by omega
        have HE := Lib.hid (show SB = hyphB s zs by rw [HSB.out, HY.out, hkN, List.take_length])
        clear hkN
        go_wp2
        go_ret
        exact ⟨by rw [← HE.out]; rfl, A2.trans haf⟩
end Go.Proofs.YtfjfgjncmliadaaDoor
