/-
  The reference's Split and Points. Conditions: the slices hold the letters and the masks; the word has at most 200 bytes.
-/
import Derived.Test.YtfjfgjncmliadaaDoorSylRef3
namespace Go.Proofs.YtfjfgjncmliadaaDoor
open Go.RowKit Go.Maps
open AlphPlain

theorem natI_get {l : List Nat} {k : Nat} {x : Int} (h : (natI l)[k]? = some x) : ∃ X : Nat, l[k]? = some X ∧ (X : Int) = x := by
  unfold natI at h
  rw [List.getElem?_map] at h
  obtain ⟨X, h1, h2⟩ := Option.map_eq_some_iff.1 h
  exact ⟨X, h1, h2⟩

set_option maxRecDepth 100000 in
set_option maxHeartbeats 1600000 in
theorem refSplit_any (A : Option Addr) (n c : Nat) (ls : List Lt) (B : Option Addr) (m d : Nat) (os : List Mk) (L R : Int) (s : ByteArray) (w : World) (ha : Ll w A n c ls) (hb : Ons w B m d os) (hs : s.size ≤ 200) :
    Calls Tryd.prog 24 #[.slice A n c, pV B m d L R, .string s] w (ListPost Value.string (if okD ls (masks os) L R s then splitB (runesOf s) (sylP ls (masks os) (runesOf s)) else []) (errOf (okD ls (masks os) L R s)) w) := by
  have AL : Aft w (w.alloc (.cells #[.slice B m d, .int .i64 L, .int .i64 R] 24)) := (Aft.refl w).alloc _
  obtain ⟨t0, t1, t2⟩ := three_cells w (.slice B m d) (.int .i64 L) (.int .i64 R) 24
  obtain ⟨i0, hi, hz0, hz1, hz2⟩ := info_parts Tryd.infoS
  have hrl : (runesOf s).length ≤ 1000000 := by have := size_runesFrom s s.size 0 #[]; rw [runes_size] at this; simp at this; omega
  have H1 := refCheck_any A n c ls B m d os L R s _ (ha.aft AL) (hb.aft AL) hs
  cases hok : okD ls (masks os) L R s
  · rw [hok] at H1
    clear hok
    go_enter Tryd.func24, Tryd.ntmps24
    go_wp2_with fail
    refine H1.mono ?_
    rintro e w1 ⟨rfl, A1⟩
    clear H1
    dsimp only [errOf]
    go_wp2
    go_ret2
    exact ⟨⟨none, 0, 0, rfl, Rw.nil⟩, AL.trans A1⟩
  · rw [hok] at H1
    clear hok
    go_enter Tryd.func24, Tryd.ntmps24
    go_wp2_with fail
    refine H1.mono ?_
    rintro e w1 ⟨rfl, A1⟩
    clear H1
    dsimp only [errOf]
    have d0 := A1.cell t0
    have d1 := A1.cell t1
    have d2 := A1.cell t2
    have B1 := AL.trans A1
    have hcv := conv_run s (by omega) w1
    have A2 := conv_aft s w1
    have hra := conv_rr s w1
    have hcc := conv_cap s w1 (by omega)
    have hrC := hra.le
    generalize convW s w1 = w2 at *
    generalize convC s w1 = C at *
    generalize w1.heap.size = RB at *
    have e0 := A2.cell d0
    have e1 := A2.cell d1
    have e2 := A2.cell d2
    have HRA := Lib.hid hra
    have B2 := B1.trans A2
    clear t0 t1 t2 d0 d1 d2 hra
    go_wp2_with fail
    refine (refStarts_any A n c ls B m d os L R s w2 (ha.aft B2) (hb.aft B2) (by omega)).mono ?_
    rintro e w3 ⟨⟨SA, sn, sc, rfl, hst, _⟩, A3⟩
    have hstl := hst.len
    rw [natI_length] at hstl
    have hscm := hst.cmax
    have hsle := hst.le
    have HST := Lib.hid hst
    have HSL := Lib.hid hstl
    have hsl : sn ≤ (runesOf s).length + 1 := by rw [← hstl, ← sylP_length]; exact sylP_len _ _ _
    have HPL := Lib.hid (show (sylP ls (masks os) (runesOf s)).length = sn by rw [sylP_length]; exact hstl)
    have B3 := B2.trans A3
    have own0 : (w3.alloc (.cells #[] 9)).ownsRow w3.heap.size 9 1 (.slice (some ⟨w3.heap.size, 0, none⟩) 0 0) 0 [] := World.ownsRow_lit w3 #[] 0 (Nat.le_refl _) (by unfold maxLen; omega) rfl
    have HO0 := Lib.hid own0
    clear hst hstl own0
    go_wp2
    go_loopw [11, 12] (fun v i wr => ∃ k : Nat, k ≤ sn ∧ i = .int .i64 (k : Nat) ∧ wr.ownsRow w3.heap.size 9 1 v k ((splitB (runesOf s) ((sylP ls (masks os) (runesOf s)).take k)).map Value.string) ∧ Aft w3 wr) (fun _ i _ => sn - (intOf i).toNat)
    case atStart => exact ⟨0, Nat.zero_le _, rfl, by simpa [splitB] using HO0.out, (Aft.refl _).alloc _⟩
    case round =>
      obtain ⟨k, hk, rfl, own, haf⟩ := hrel
      have HO := Lib.hid own
      clear own
      by_cases hlt : k < sn
      · have hki : (k : Int) < (sn : Int) := by omega
        obtain ⟨b, off, x, rfl, hx, g1⟩ := (HST.out.aft haf).at_ hlt
        obtain ⟨X, hX, rfl⟩ := natI_get hx
        have hgp := sylP_get hX
        have HN := Lib.hid (splitB_next (rs := runesOf s) hgp)
        have hpo := sylP_ok (List.mem_of_getElem? hgp)
        have hs8 := haf.size
        by_cases hl2 : k + 1 < sn
        · have hki2 : (k : Int) + 1 < (sn : Int) := by omega
          obtain ⟨b2, off2, y, hA2, hy, g2⟩ := (HST.out.aft haf).at_ hl2
          cases hA2
          obtain ⟨Y, hY, rfl⟩ := natI_get hy
          rw [hY, Option.getD_some] at hpo
          rw [hY, Option.getD_some] at HN
          have hXY : X ≤ Y := Nat.le_of_lt hpo.1
          have hYn : Y ≤ (runesOf s).length := hpo.2
          have hXC : ¬ C = X := by have := hpo.1; simp at this; omega
          have hXYi : (X : Int) ≤ (Y : Int) := by omega
          have hYC : (Y : Int) ≤ (C : Int) := by omega
          have hcv2 := ((HRA.out.aft (A3.trans haf)).sub hXY hYn).conv
          clear hx hX hgp hy hY hpo
          generalize runesBytes (sub (runesOf s) X Y) = T at *
          go_wp2_with (at_builtin; refine wpList_append_own _ rfl _ _ 35 rfl w3.heap.size 9 i0 _ 1 16 Tryd.underlying35 hi hz0 hz1 hz2 rfl (by decide) _ _ _ rfl (HO.out.alloc _) ⟨wr.heap.size, 0, none⟩ 1 1 [.string T] rfl rfl (one_val _ _ _ _ rfl) (oneStr _) (by unfold maxLen; omega) (by omega) (by simp; omega) ?_; intro v' w4 own2 grow2 _)
          have A4 : Aft w3 w4 := (haf.alloc _).grown grow2 (fun k e => (HO.out.lt k e).1)
          have hrel : ∀ V, v' = V → w4.ownsRow w3.heap.size 9 1 V (k + 1) ((splitB (runesOf s) ((sylP ls (masks os) (runesOf s)).take (k + 1))).map Value.string) := by
            rintro V rfl
            rw [HN.out, List.map_append]
            exact own2
          have HRL := Lib.hid hrel
          clear hrel
          obtain ⟨g', cap', rfl⟩ := row_succ own2
          clear own2 grow2
          go_wp2
          go_roundw
          case rel => exact ⟨k + 1, by omega, by go_num, HRL.out _ rfl, A4⟩
          case measure => simp [intOf]; omega
        · have hki2 : ¬ (k : Int) + 1 < (sn : Int) := by omega
          have hno : (stP ls (masks os) (runesOf s))[k + 1]? = none := List.getElem?_eq_none (by rw [HSL.out]; omega)
          rw [hno, Option.getD_none] at hpo
          rw [hno, Option.getD_none] at HN
          have hXY : X ≤ (runesOf s).length := Nat.le_of_lt hpo.1
          have hXC : ¬ C = X := by have := hpo.1; simp at this; omega
          have hXYi : (X : Int) ≤ ((runesOf s).length : Int) := by omega
          have hYC : ((runesOf s).length : Int) ≤ (C : Int) := by omega
          have hcv2 := ((HRA.out.aft (A3.trans haf)).sub hXY (Nat.le_refl _)).conv
          clear hx hX hgp hno hpo
          generalize runesBytes (sub (runesOf s) X (runesOf s).length) = T at *
          go_wp2_with (at_builtin; refine wpList_append_own _ rfl _ _ 35 rfl w3.heap.size 9 i0 _ 1 16 Tryd.underlying35 hi hz0 hz1 hz2 rfl (by decide) _ _ _ rfl (HO.out.alloc _) ⟨wr.heap.size, 0, none⟩ 1 1 [.string T] rfl rfl (one_val _ _ _ _ rfl) (oneStr _) (by unfold maxLen; omega) (by omega) (by simp; omega) ?_; intro v' w4 own2 grow2 _)
          have A4 : Aft w3 w4 := (haf.alloc _).grown grow2 (fun k e => (HO.out.lt k e).1)
          have hrel : ∀ V, v' = V → w4.ownsRow w3.heap.size 9 1 V (k + 1) ((splitB (runesOf s) ((sylP ls (masks os) (runesOf s)).take (k + 1))).map Value.string) := by
            rintro V rfl
            rw [HN.out, List.map_append]
            exact own2
          have HRL := Lib.hid hrel
          clear hrel
          obtain ⟨g', cap', rfl⟩ := row_succ own2
          clear own2 grow2
          go_wp2
          go_roundw
          case rel => exact ⟨k + 1, by omega, by go_num, HRL.out _ rfl, A4⟩
          case measure => simp [intOf]; omega
      · obtain rfl : k = sn := by omega
        have hO := HO.out
        rw [List.take_of_length_le (by rw [HPL.out]; exact Nat.le_refl _)] at hO
        obtain ⟨X3, c3, rfl, s3⟩ := Rw.of_row hO (by simp [splitB, HPL.out])
        have HS := Lib.hid s3
        clear s3 hO
        go_wp2
        go_ret2
        exact ⟨⟨_, _, _, rfl, HS.out⟩, B3.trans haf⟩
end Go.Proofs.YtfjfgjncmliadaaDoor
