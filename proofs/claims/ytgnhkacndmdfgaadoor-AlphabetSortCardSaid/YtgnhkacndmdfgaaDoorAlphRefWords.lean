/-
  The reference's Words returns the same words; Same tells whether two lists of strings are equal. Condition: the slices hold the letters and the strings.
-/
import Derived.Test.YtgnhkacndmdfgaaDoorAlphRef
namespace Go.Proofs.YtgnhkacndmdfgaaDoor
open Go.RowKit
open AlphPlain

theorem Ss.of_row {w : World} {base n : Nat} {v : Value} {ss : List ByteArray} (h : w.ownsRow base 9 1 v n (strV ss)) (hl : ss.length = n) (hm : n * 16 ≤ 281474976710656) : ∃ A c, v = .slice A n c ∧ Ss w A n c ss := by
  rcases h.2 with ⟨rfl, rfl⟩ | ⟨g, cap, cur, rfl, _, _, hle, _, _⟩
  · have : ss = [] := List.length_eq_zero_iff.1 hl
    subst this
    exact ⟨none, 0, rfl, Ss.nil (by omega) (fun _ => rfl)⟩
  · exact ⟨_, _, rfl, Ss.of_own h hl hle hm⟩

theorem rowS_lt {wo wr : World} {v : Value} {n : Nat} {l : List Value} (h : wr.ownsRow wo.heap.size 9 1 v n l) : ∀ g, v.ownBlock = some g → wo.heap.size ≤ g := fun g hg => (h.lt g hg).1

set_option maxRecDepth 100000 in
set_option maxHeartbeats 3200000 in
theorem refWords_any (A : Option Addr) (n c : Nat) (ls : List Lt) (x : Int) (w : World) (ha : Ll w A n c ls) :
    Calls Tryd.prog 38 #[.slice A n c, .int .i64 x] w (SsPost w (words ls x)) := by
  have hnc := ha.le
  have hlen := Lib.hid ha.len
  have h1 := refValid_any A n c ls w ha
  cases hv : validB ls
  · rw [hv] at h1
    go_enter Tryd.func38, Tryd.ntmps38
    go_wp2_with fail
    refine h1.mono ?_
    rintro e w1 ⟨rfl, A1⟩
    clear h1
    go_wp2
    go_ret
    exact ⟨⟨_, _, _, rfl, by simp [words, hv]; exact Ss.nil (by omega) (fun _ => rfl)⟩, A1⟩
  · rw [hv] at h1
    by_cases hx0 : x < 0
    · go_enter Tryd.func38, Tryd.ntmps38
      go_wp2_with fail
      refine h1.mono ?_
      rintro e w1 ⟨rfl, A1⟩
      clear h1
      go_wp2
      go_ret
      refine ⟨⟨_, _, _, rfl, ?_⟩, A1⟩
      have e : words ls x = [] := by unfold words; rw [decide_eq_false (show ¬ 0 ≤ x by omega)]; simp
      rw [e]
      exact Ss.nil (by omega) (fun _ => rfl)
    · by_cases hx1 : 40 < x
      · go_enter Tryd.func38, Tryd.ntmps38
        go_wp2_with fail
        refine h1.mono ?_
        rintro e w1 ⟨rfl, A1⟩
        clear h1
        go_wp2
        go_ret
        refine ⟨⟨_, _, _, rfl, ?_⟩, A1⟩
        have e : words ls x = [] := by unfold words; rw [decide_eq_false (show ¬ x ≤ 40 by omega)]; simp
        rw [e]
        exact Ss.nil (by omega) (fun _ => rfl)
      · obtain ⟨X, rfl⟩ : ∃ X : Nat, x = X := ⟨x.toNat, by omega⟩
        have hw : words ls X = (wordsN ls X).getD [] := by
          unfold words
          rw [hv, decide_eq_true (show (0 : Int) ≤ X by omega), decide_eq_true (show (X : Int) ≤ 40 by omega)]
          simp
        have HW := Lib.hid hw
        have hn64 : n ≤ 64 := by
          simp only [validB, Bool.and_eq_true, decide_eq_true_eq] at hv
          have := hlen.out
          omega
        clear hw hv
        obtain ⟨i0, hi, hz0, hz1, hz2⟩ := info_parts Tryd.infoS
        go_enter Tryd.func38, Tryd.ntmps38
        go_wp2_with fail
        refine h1.mono ?_
        rintro e w1 ⟨rfl, A1⟩
        clear h1
        go_wp2
        go_loopw [5, 6] (fun v x wr => ∃ (i : Nat) (B : Option Addr) (m d : Nat) (ws : List ByteArray), i ≤ X ∧ x = .int .i64 (i : Nat) ∧ v = .slice B m d ∧ Ss wr B m d ws ∧ wordsN ls i = some ws ∧ Aft w wr) (fun _ x _ => X - (intOf x).toNat)
        case atStart =>
          refine ⟨0, _, _, _, [⟨#[]⟩], Nat.zero_le _, rfl, rfl, ⟨rfl, Nat.le_refl _, by omega, by omega, fun e => (by cases e), fun i s hi => ?_⟩, rfl, A1.alloc _⟩
          cases i with
          | zero => simp at hi; subst hi; exact ⟨_, _, rfl, by simp⟩
          | succ i => simp at hi
        case round =>
          obtain ⟨i, B, m, d, ws, hiX, rfl, rfl, hs, hws, haf⟩ := hrel
          have hz := wordsN_size hws
          have hml := Lib.hid hs.len
          have hmd := hs.le
          have HWS := Lib.hid hws
          clear hws
          have hm256 : m ≤ 256 := by have := hml.out; omega
          have hz2' : ∀ s ∈ ws, s.size ≤ 1000 := fun s h => by have := hz.2 s h; omega
          clear hz
          by_cases hlt : i < X
          · obtain ⟨wo, rfl⟩ : ∃ wo : World, wo = wr := ⟨_, rfl⟩
            have own0 : (wo.alloc (.cells #[] 9)).ownsRow wo.heap.size 9 1 (.slice (some ⟨wo.heap.size, 0, none⟩) 0 0) 0 [] := World.ownsRow_lit wo #[] 0 (Nat.le_refl _) (by unfold maxLen; omega) rfl
            go_wp2
            go_loopw [7, 32] (fun v x wr => ∃ (j M : Nat), j ≤ m ∧ x = .int .i64 (j : Nat) ∧ M = j * n ∧ wr.ownsRow wo.heap.size 9 1 v M (strV (longer (ws.take j) ls)) ∧ Aft wo wr) (fun _ x _ => m - (intOf x).toNat)
            case atStart => exact ⟨0, 0, Nat.zero_le _, rfl, by omega, own0, (Aft.refl _).alloc _⟩
            case round =>
              obtain ⟨j, M, hjm, rfl, hM, own, aff⟩ := hrel
              have HOWN := Lib.hid own
              have HM := Lib.hid hM
              clear own hM own0
              by_cases hjl : j < m
              · obtain ⟨b, off, s, rfl, hf, g1⟩ := hs.at_ hjl
                have e1 := aff.cell g1
                have hsz : s.size ≤ 1000 := hz2' s (List.mem_of_getElem? hf)
                have HF := Lib.hid hf
                clear hf g1
                go_wp2
                obtain ⟨wp, hwp⟩ : ∃ wp : World, wp = wr := ⟨_, rfl⟩
                clear hwp wp
                go_loopw [7, 38] (fun v x wr => ∃ (k M' : Nat), k ≤ n ∧ x = .int .i64 (k : Nat) ∧ M' = j * n + k ∧ wr.ownsRow wo.heap.size 9 1 v M' (strV (longer (ws.take j) ls ++ spread s (ls.take k))) ∧ Aft wo wr) (fun _ x _ => n - (intOf x).toNat)
                case atStart => exact ⟨0, M, Nat.zero_le _, rfl, by have := HM.out; omega, by simpa [spread] using HOWN.out, aff⟩
                case round =>
                  obtain ⟨k, M', hkn, rfl, hM', own', aff'⟩ := hrel
                  have HO := Lib.hid own'
                  have HM' := Lib.hid hM'
                  clear own' hM'
                  by_cases hkl : k < n
                  · obtain ⟨b2, off2, l, rfl, hf2, g1, g2⟩ := ha.at_ hkl
                    have d1 := (haf.trans aff').cell g1
                    have d2 := (haf.trans aff').cell g2
                    have HL := Lib.hid hf2
                    clear hf2 g1 g2
                    have he := encode_small l.1
                    have hsum : s.size + (Utf8.encode l.1).size ≤ 9223372036854775807 := by omega
                    have hroom : M' + 1 ≤ 16384 := by
                      have h3 := room hjl hkl
                      have h4 : m * n ≤ 256 * 64 := Nat.mul_le_mul hm256 hn64
                      have := HM'.out
                      omega
                    generalize hE : Utf8.encode l.1 = E at *
                    have hw0 := aff'.size
                    go_wp2_with (at_builtin; refine wpList_append_own _ rfl _ _ 39 rfl wo.heap.size 9 i0 _ 1 16 Tryd.underlying39 hi hz0 hz1 hz2 rfl (by decide) _ _ _ rfl ((HO.out.alloc _).alloc _) ⟨wr.heap.size + 1, 0, none⟩ 1 1 (strV [s ++ E]) rfl rfl (one_str2 _ _ _ (by exact World.size_alloc _ _)) (strV_one _) (by unfold maxLen; omega) (by omega) (by simp; omega) ?_; intro v' w2 own2 grow2 _)
                    have hv' : ∃ g cap, v' = .slice (some ⟨g, 0, none⟩) (M' + 1) cap := by
                      rcases own2.2 with ⟨_, h0⟩ | ⟨g, cap, cur, hv, _⟩
                      · omega
                      · exact ⟨g, cap, hv⟩
                    have hrel : ∀ V, v' = V → ∃ (k_1 M'_1 : Nat), k_1 ≤ n ∧ Value.int .i64 ((k : Int) + 1) = .int .i64 (k_1 : Nat) ∧ M'_1 = j * n + k_1 ∧ w2.ownsRow wo.heap.size 9 1 V M'_1 (strV (longer (ws.take j) ls ++ spread s (ls.take k_1))) ∧ Aft wo w2 := by
                      rintro V rfl
                      refine ⟨k + 1, M' + 1, by omega, by go_num, by have := HM'.out; omega, ?_, ((aff'.alloc _).alloc _).grown grow2 (rowS_lt HO.out)⟩
                      rw [take_next HL.out, spread_snoc, hE, ← List.append_assoc, strV_append]
                      exact own2
                    have HR := Lib.hid hrel
                    clear hrel
                    obtain ⟨g', cap', rfl⟩ := hv'
                    clear own2 grow2
                    go_wp2
                    go_roundw
                    case rel => exact HR.out _ rfl
                    case measure => simp [intOf]; omega
                  · obtain rfl : k = n := by omega
                    go_wp2
                    go_roundw
                    case rel =>
                      refine ⟨j + 1, M', by omega, by go_num, by have := HM'.out; rw [Nat.succ_mul]; omega, ?_, aff'⟩
                      have hO := HO.out
                      have e : ls.take k = ls := List.take_of_length_le (by rw [hlen.out]; exact Nat.le_refl _)
                      rw [e] at hO
                      rw [take_next HF.out, longer_snoc]
                      exact hO
                    case measure => simp [intOf]; omega
              · obtain rfl : j = m := by omega
                have hlong : (longer ws ls).length = M := by rw [longer_length, hml.out, hlen.out, HM.out]
                have hO := HOWN.out
                have et : ws.take j = ws := List.take_of_length_le (by rw [hml.out]; exact Nat.le_refl _)
                rw [et] at hO
                have hMb : M ≤ 256 * 64 := by rw [HM.out]; exact Nat.mul_le_mul hm256 hn64
                obtain ⟨A3, c3, rfl, s3⟩ := Ss.of_row hO hlong (by omega)
                have hc3 := s3.le
                clear hO
                have HLG := Lib.hid hlong
                clear hlong
                by_cases hbig : 256 < M
                · have hbig' : (256 : Int) < (M : Int) := by omega
                  go_wp2
                  go_ret
                  refine ⟨⟨_, _, _, rfl, ?_⟩, haf.trans aff⟩
                  have e : words ls X = [] := by
                    have h0 : wordsN ls (i + 1) = none := by rw [wordsN, HWS.out]; simp only; rw [if_pos (by rw [hml.out, hlen.out, ← HM.out]; exact hbig)]
                    rw [HW.out, show X = i + 1 + (X - (i + 1)) from by omega, wordsN_none h0]
                    rfl
                  rw [e]
                  exact Ss.nil (by omega) (fun _ => rfl)
                · have hle : (M : Int) ≤ 256 := by omega
                  go_wp2
                  go_roundw
                  case rel => exact ⟨i + 1, _, _, _, longer ws ls, by omega, by go_num, rfl, s3, by rw [wordsN, HWS.out]; simp only; rw [if_neg (by rw [hml.out, hlen.out, ← HM.out]; omega)], haf.trans aff⟩
                  case measure => simp [intOf]; omega
          · obtain rfl : i = X := by omega
            go_wp2
            go_ret
            exact ⟨⟨_, _, _, rfl, by rw [HW.out, HWS.out]; exact hs⟩, haf⟩

set_option maxRecDepth 100000 in
set_option maxHeartbeats 800000 in
/-- Same of two slices that hold the same strings. -/
theorem sameS_any (A : Option Addr) (n c : Nat) (B : Option Addr) (m d : Nat) (ss : List ByteArray) (w : World) (ha : Ss w A n c ss) (hb : Ss w B m d ss) :
    Calls Tryd.prog 29 #[.slice A n c, .slice B m d] w (BoolPost w true) := by
  obtain rfl : n = m := by rw [← ha.len]; exact hb.len
  have hn := ha.max
  have hnc := ha.le
  have hnd := hb.le
  go_enter Tryd.func29, Tryd.ntmps29
  go_wp2
  go_loopw [13] (fun i wr => ∃ k, k ≤ n ∧ i = .int .i64 (k : Nat) ∧ Aft w wr) (fun i _ => n - (intOf i).toNat)
  case atStart => exact ⟨0, Nat.zero_le _, rfl, Aft.refl _⟩
  case round =>
    obtain ⟨k, hk, rfl, haf⟩ := hrel
    by_cases hlt : k < n
    · obtain ⟨b, off, s, rfl, hf, h1⟩ := ha.at_ hlt
      obtain ⟨b2, off2, s2, rfl, hf2, h2⟩ := hb.at_ hlt
      obtain rfl : s = s2 := by rw [hf] at hf2; exact Option.some.inj hf2
      have c1 := haf.cell h1
      have c2 := haf.cell h2
      clear hf hf2 h1 h2
      have hki : (k : Int) < (n : Int) := by omega
      have hwk : IntKind.i64.wrap (k : Int) = (k : Int) := wrap_small _ (by omega) (by omega)
      go_wp2
      go_quiet (fail)
      go_wp2
      go_roundw
      case rel => exact ⟨k + 1, by omega, by go_num, haf.drewN _⟩
      case measure => simp [intOf]; omega
    · obtain rfl : k = n := by omega
      go_wp2
      go_ret
      exact ⟨rfl, haf⟩
end Go.Proofs.YtgnhkacndmdfgaaDoor
