/-
  Points; Same and Ints at equal lists. Conditions: the slices hold the letters and the masks; the tables lie as their texts say; the word has at most 1000000 bytes.
-/
import Derived.Test.YtfjfgjncmliadaaDoorSylOut
import Derived.Deep.RegionHeld3
namespace Go.Proofs.YtfjfgjncmliadaaDoor
open Go.RowKit Go.Maps
open AlphPlain

set_option maxRecDepth 100000 in
set_option maxHeartbeats 800000 in
theorem sameS_any (A : Option Addr) (n c : Nat) (B : Option Addr) (m d : Nat) (l : List ByteArray) (w : World) (ha : Rw Value.string w A n c l) (hb : Rw Value.string w B m d l) :
    Calls Tryd.prog 25 #[.slice A n c, .slice B m d] w (BoolPost w true) := by
  obtain rfl : n = m := by rw [← ha.len]; exact hb.len
  have hnc := ha.le
  have hcm := ha.cmax
  have hnd := hb.le
  go_enter Tryd.func25, Tryd.ntmps25
  go_wp2
  go_loopw [13] (fun i wr => ∃ k, k ≤ n ∧ i = .int .i64 (k : Nat) ∧ Aft w wr) (fun i _ => n - (intOf i).toNat)
  case atStart => exact ⟨0, Nat.zero_le _, rfl, Aft.refl _⟩
  case round =>
    obtain ⟨k, hk, rfl, haf⟩ := hrel
    by_cases hlt : k < n
    · obtain ⟨b, off, s, rfl, hf, h1⟩ := ha.at_ hlt
      obtain ⟨b2, off2, s2, rfl, hf2, h2⟩ := hb.at_ hlt
      obtain rfl : s = s2 := by rw [hf] at hf2; exact Option.some.inj hf2
      have c1 := haf.cell h1
      have c2 := haf.cell h2
      clear hf hf2 h1 h2
      have hki : (k : Int) < (n : Int) := by omega
      have hwk : IntKind.i64.wrap (k : Int) = (k : Int) := wrap_small _ (by omega) (by omega)
      go_wp2
      go_quiet (fail)
      go_wp2
      go_roundw
      case rel => exact ⟨k + 1, by omega, by go_num, haf.drewN _⟩
      case measure => simp [intOf]; omega
    · obtain rfl : k = n := by omega
      go_wp2
      go_ret
      exact ⟨rfl, haf⟩

set_option maxRecDepth 100000 in
set_option maxHeartbeats 800000 in
theorem ints_any (A : Option Addr) (n c : Nat) (B : Option Addr) (m d : Nat) (l : List Int) (w : World) (ha : Rw vI w A n c l) (hb : Rw vI w B m d l) :
    Calls Tryd.prog 18 #[.slice A n c, .slice B m d] w (BoolPost w true) := by
  obtain rfl : n = m := by rw [← ha.len]; exact hb.len
  have hnc := ha.le
  have hcm := ha.cmax
  have hnd := hb.le
  go_enter Tryd.func18, Tryd.ntmps18
  go_wp2
  go_loopw [13] (fun i wr => ∃ k, k ≤ n ∧ i = .int .i64 (k : Nat) ∧ Aft w wr) (fun i _ => n - (intOf i).toNat)
  case atStart => exact ⟨0, Nat.zero_le _, rfl, Aft.refl _⟩
  case round =>
    obtain ⟨k, hk, rfl, haf⟩ := hrel
    by_cases hlt : k < n
    · obtain ⟨b, off, s, rfl, hf, h1⟩ := ha.at_ hlt
      obtain ⟨b2, off2, s2, rfl, hf2, h2⟩ := hb.at_ hlt
      obtain rfl : s = s2 := by rw [hf] at hf2; exact Option.some.inj hf2
      have c1 := haf.cell h1
      have c2 := haf.cell h2
      clear hf hf2 h1 h2
      have hki : (k : Int) < (n : Int) := by omega
      have hwk : IntKind.i64.wrap (k : Int) = (k : Int) := wrap_small _ (by omega) (by omega)
      go_wp2
      go_quiet (fail)
      go_wp2
      go_roundw
      case rel => exact ⟨k + 1, by omega, by go_num, haf.drewN _⟩
      case measure => simp [intOf]; omega
    · obtain rfl : k = n := by omega
      go_wp2
      go_ret
      exact ⟨rfl, haf⟩

/-- The pieces from b on, cut at es, that make points. -/
theorem ptsB_cons (n : Nat) (L R : Int) (p : Nat × Nat) (ps : List (Nat × Nat)) : ptsB n L R (p :: ps) = (if L ≤ (p.1 : Int) ∧ R ≤ (n : Int) - (p.1 : Int) then [(p.1 : Int)] else []) ++ ptsB n L R ps := by
  unfold ptsB
  by_cases h1 : L ≤ (p.1 : Int) <;> by_cases h2 : R ≤ (n : Int) - (p.1 : Int) <;> simp [h1, h2]
theorem pcs_step {n b : Nat} {es : List Nat} {p : Nat × Nat} {ps : List (Nat × Nat)} (h : p :: ps = pcs n b es) : p.1 = b ∧ ∃ es', ps = pcs n p.2 es' := by
  cases es with
  | nil =>
    rw [pcs] at h
    split at h
    · cases h
      refine ⟨rfl, [], ?_⟩
      rw [pcs, if_neg (Nat.lt_irrefl _)]
    · cases h
  | cons e es =>
    rw [pcs] at h
    cases h
    exact ⟨rfl, es, rfl⟩

set_option maxRecDepth 100000 in
set_option maxHeartbeats 1600000 in
theorem points_any (A : Option Addr) (n c : Nat) (ls : List Lt) (B : Option Addr) (m d : Nat) (os : List Mk) (L R : Int) (s : ByteArray) (w : World) (hT : Tabs w) (ha : Ll w A n c ls) (hb : Ons w B m d os) (hs : s.size ≤ 1000000) :
    Calls Tryd.prog 26 #[.slice A n c, pV B m d L R, .string s] w (ListPost vI (if okD ls (masks os) L R s then ptsB (runesOf s).length L R (sylP ls (masks os) (runesOf s)) else []) (errOf (okD ls (masks os) L R s)) w) := by
  have AL : Aft w (w.alloc (.cells #[.slice B m d, .int .i64 L, .int .i64 R] 24)) := (Aft.refl w).alloc _
  obtain ⟨t0, t1, t2⟩ := three_cells w (.slice B m d) (.int .i64 L) (.int .i64 R) 24
  have hrl : (runesOf s).length ≤ 1000000 := by have := size_runesFrom s s.size 0 #[]; rw [runes_size] at this; simp at this; omega
  obtain ⟨i0, hi, hz0, hz1, hz2⟩ := info_parts Tryd.infoI
  cases hok : okD ls (masks os) L R s
  · have H1 := Lib.hid (divide_bad A n c ls B m d os L R s _ (tabs_aft hT AL) (ha.aft AL) (hb.aft AL) hs hok)
    clear hT ha hb hok
    go_enter Tryd.func26, Tryd.ntmps26
    go_wp2_with fail
    refine H1.out.mono ?_
    rintro e w1 ⟨rfl, A1⟩
    go_wp2_with fail
    refine (Tryd.utf8_RuneCountInString s w1 (by omega)).mono ?_
    rintro e w2 ⟨rfl, ps, rfl⟩
    have A2 : Aft w1 (w1.iter s ps) := (Aft.refl w1).alloc _
    generalize w1.iter s ps = w2 at *
    generalize Lib.runeCount s = RC at *
    go_wp2
    go_loopw [10, 26] (fun v i wr => v = .slice none 0 0 ∧ i = .int .i64 0 ∧ w2 = wr) (fun _ _ _ => 0)
    case atStart => exact ⟨rfl, rfl, rfl⟩
    case round =>
      obtain ⟨rfl, rfl, rfl⟩ := hrel
      go_wp2
      go_ret2
      exact ⟨⟨none, 0, 0, rfl, Rw.nil⟩, (AL.trans A1).trans A2⟩
  · have H1 := Lib.hid (divide_any A n c ls B m d os L R s _ (tabs_aft hT AL) (ha.aft AL) (hb.aft AL) hs hok)
    clear hT ha hb hok
    have hrc : Lib.runeCount s = (runesOf s).length := by rw [runeCount_rd, runesOf_rd]
    go_enter Tryd.func26, Tryd.ntmps26
    go_wp2_with fail
    refine H1.out.mono ?_
    rintro e w1 ⟨RB, C, X, nx, cx, rfl, hrw, hrr, hC, A1⟩
    have hnx : nx ≤ 1000001 := by have := sylP_len ls (masks os) (runesOf s); have := hrw.len; omega
    have hxc := hrw.le
    have hok2 := Lib.hid (fun p (h : p ∈ sylP ls (masks os) (runesOf s)) => sylP_ok h)
    obtain ⟨es, hes⟩ : ∃ es, sylP ls (masks os) (runesOf s) = pcs (runesOf s).length 0 es := ⟨_, rfl⟩
    generalize sylP ls (masks os) (runesOf s) = ps at *
    have HW := Lib.hid hrw
    have HL := Lib.hid hrw.len
    have HES := Lib.hid hes
    clear hrw hrr H1 hes
    have d1 := A1.cell t1
    have d2 := A1.cell t2
    go_wp2_with fail
    refine (Tryd.utf8_RuneCountInString s w1 (by omega)).mono ?_
    rintro e w2 ⟨rfl, pos, rfl⟩
    have A2 : Aft w1 (w1.iter s pos) := (Aft.refl w1).alloc _
    generalize w1.iter s pos = w2 at *
    rw [hrc]
    clear hrc
    generalize (runesOf s).length = N at *
    have e1 := A2.cell d1
    have e2 := A2.cell d2
    have hs2 := A2.size
    go_wp2
    go_loopw [10, 11, 12, 26] (fun v bf af i wr => ∃ (k b : Nat) (es : List Nat) (out : List Int), k ≤ nx ∧ b ≤ N ∧ i = .int .i64 (k : Nat) ∧ bf = .int .i64 (b : Nat) ∧ af = .int .i64 ((N : Int) - (b : Int)) ∧ ps.drop k = pcs N b es ∧ ptsB N L R ps = out ++ ptsB N L R (ps.drop k) ∧ out.length ≤ k ∧ wr.ownsRow w2.heap.size 3 1 v out.length (out.map vI) ∧ Aft w2 wr) (fun _ _ _ i _ => nx - (intOf i).toNat)
    case atStart => exact ⟨0, 0, es, [], Nat.zero_le _, Nat.zero_le _, rfl, rfl, by simp, HES.out, rfl, Nat.le_refl _, World.ownsRow_nil _ _ _ _, Aft.refl _⟩
    case round =>
      obtain ⟨k, b, es, out, hk, hbN, rfl, rfl, rfl, hpc, hpt, hout, own, haf⟩ := hrel
      have HO := Lib.hid own
      have HP := Lib.hid hpt
      have HC := Lib.hid hpc
      clear own hpt hpc
      by_cases hlt : k < nx
      · obtain ⟨bk, off, p, rfl, hp, g1⟩ := HW.out.at_ hlt
        have g2 := (A2.trans haf).cell g1
        dsimp only [pcE] at g2
        have f1 := haf.cell e1
        have f2 := haf.cell e2
        have hpo := hok2.out p (List.mem_of_getElem? hp)
        have hst := HC.out
        rw [drop_of_get hp] at hst
        obtain ⟨hb1, es', hes'⟩ := pcs_step hst
        have HPD := Lib.hid (show ptsB N L R (ps.drop k) = (if L ≤ (p.1 : Int) ∧ R ≤ (N : Int) - (p.1 : Int) then [(p.1 : Int)] else []) ++ ptsB N L R (ps.drop (k + 1)) by rw [drop_of_get hp, ptsB_cons])
        have HS := Lib.hid hes'
        have hki : (k : Int) < (nx : Int) := by omega
        have hs8 := haf.size
        clear hp g1 hst hes'
        obtain ⟨P1, P2⟩ := p
        simp only at hb1 hpo HPD HS g2
        subst hb1
        obtain ⟨D, hD⟩ : ∃ D, D = P2 - P1 := ⟨_, rfl⟩
        have hsum : (P1 : Int) + (D : Int) = (P2 : Int) := by omega
        have hdif : (N : Int) - (P1 : Int) - (D : Int) = (N : Int) - (P2 : Int) := by omega
        rw [← hD] at g2
        clear hD
        by_cases hL : L ≤ (P1 : Int)
        · by_cases hR : R ≤ (N : Int) - (P1 : Int)
          · rw [if_pos ⟨hL, hR⟩] at HPD
            go_wp2_with (at_builtin; refine wpList_append_own _ rfl _ _ 30 rfl w2.heap.size 3 i0 _ 1 8 Tryd.underlying30 hi hz0 hz1 hz2 rfl (by decide) _ _ _ rfl (HO.out.alloc _) ⟨wr.heap.size, 0, none⟩ 1 1 [vI (P1 : Int)] rfl rfl (one_val _ _ _ _ rfl) (oneI _) (by unfold maxLen; omega) (by omega) (by simp; omega) ?_; intro v' w4 own2 grow2 _)
            have A4 : Aft w2 w4 := (haf.alloc _).grown grow2 (fun k e => (HO.out.lt k e).1)
            have hrel : ∀ V, v' = V → w4.ownsRow w2.heap.size 3 1 V (out ++ [(P1 : Int)]).length ((out ++ [(P1 : Int)]).map vI) := by
              rintro V rfl
              rw [List.length_append, List.map_append]
              exact own2
            have HRL := Lib.hid hrel
            clear hrel
            obtain ⟨g', cap', rfl⟩ := row_succ own2
            clear own2 grow2
            go_wp2
            go_roundw
            case rel => exact ⟨k + 1, P2, es', out ++ [(P1 : Int)], by omega, by omega, by go_num, by first | rfl | (simp; omega), by first | rfl | (simp; omega), HS.out, by rw [HP.out, HPD.out, List.append_assoc], by simp; omega, HRL.out _ rfl, A4⟩
            case measure => simp [intOf]; omega
          · rw [if_neg (fun h => hR h.2)] at HPD
            go_wp2
            go_roundw
            case rel => exact ⟨k + 1, P2, es', out, by omega, by omega, by go_num, by first | rfl | (simp; omega), by first | rfl | (simp; omega), HS.out, by rw [HP.out, HPD.out]; rfl, by omega, HO.out, haf⟩
            case measure => simp [intOf]; omega
        · rw [if_neg (fun h => hL h.1)] at HPD
          go_wp2
          go_roundw
          case rel => exact ⟨k + 1, P2, es', out, by omega, by omega, by go_num, by first | rfl | (simp; omega), by first | rfl | (simp; omega), HS.out, by rw [HP.out, HPD.out]; rfl, by omega, HO.out, haf⟩
          case measure => simp [intOf]; omega
      · obtain rfl : k = nx := by omega
        have h := HP.out
        rw [List.drop_of_length_le (by rw [HL.out]; exact Nat.le_refl _), show ptsB N L R [] = [] from rfl, List.append_nil] at h
        obtain ⟨X3, c3, rfl, s3⟩ := Rw.of_row HO.out rfl
        have HS := Lib.hid s3
        have HH := Lib.hid h
        clear s3 h
        go_wp2
        go_ret2
        exact ⟨⟨_, _, _, rfl, by rw [HH.out]; exact HS.out⟩, ((AL.trans A1).trans A2).trans haf⟩
end Go.Proofs.YtfjfgjncmliadaaDoor
