/-
  The reference's Points and Heavy. Conditions: the slices hold the letters and the masks; the word has at most 200 bytes.
-/
import Derived.Test.YtfjfgjncmliadaaDoorSylBack
namespace Go.Proofs.YtfjfgjncmliadaaDoor
open Go.RowKit Go.Maps
open AlphPlain

set_option maxRecDepth 100000 in
set_option maxHeartbeats 1600000 in
theorem refPoints_any (A : Option Addr) (n c : Nat) (ls : List Lt) (B : Option Addr) (m d : Nat) (os : List Mk) (L R : Int) (s : ByteArray) (w : World) (ha : Ll w A n c ls) (hb : Ons w B m d os) (hs : s.size ≤ 200) :
    Calls Tryd.prog 27 #[.slice A n c, pV B m d L R, .string s] w (ListPost vI (if okD ls (masks os) L R s then ptsB (runesOf s).length L R (sylP ls (masks os) (runesOf s)) else []) (errOf (okD ls (masks os) L R s)) w) := by
  have AL : Aft w (w.alloc (.cells #[.slice B m d, .int .i64 L, .int .i64 R] 24)) := (Aft.refl w).alloc _
  obtain ⟨t0, t1, t2⟩ := three_cells w (.slice B m d) (.int .i64 L) (.int .i64 R) 24
  obtain ⟨i0, hi, hz0, hz1, hz2⟩ := info_parts Tryd.infoI
  have hrl : (runesOf s).length ≤ 1000000 := by have := size_runesFrom s s.size 0 #[]; rw [runes_size] at this; simp at this; omega
  have H1 := refCheck_any A n c ls B m d os L R s _ (ha.aft AL) (hb.aft AL) hs
  cases hok : okD ls (masks os) L R s
  · rw [hok] at H1
    clear hok
    go_enter Tryd.func27, Tryd.ntmps27
    go_wp2_with fail
    refine H1.mono ?_
    rintro e w1 ⟨rfl, A1⟩
    clear H1
    dsimp only [errOf]
    go_wp2
    go_ret2
    exact ⟨⟨none, 0, 0, rfl, Rw.nil⟩, AL.trans A1⟩
  · rw [hok] at H1
    have hL1 := ok_marg hok
    clear hok
    go_enter Tryd.func27, Tryd.ntmps27
    go_wp2_with fail
    refine H1.mono ?_
    rintro e w1 ⟨rfl, A1⟩
    clear H1
    dsimp only [errOf]
    have d0 := A1.cell t0
    have d1 := A1.cell t1
    have d2 := A1.cell t2
    have B1 := AL.trans A1
    have hcv := conv_run s (by omega) w1
    have A2 := conv_aft s w1
    generalize convW s w1 = w2 at *
    generalize convC s w1 = C at *
    generalize w1.heap.size = RB at *
    have A2l : Aft w2 (w2.alloc (.cells #[] 3)) := (Aft.refl w2).alloc _
    have own0 : (w2.alloc (.cells #[] 3)).ownsRow w2.heap.size 3 1 (.slice (some ⟨w2.heap.size, 0, none⟩) 0 0) 0 [] := World.ownsRow_lit w2 #[] 0 (Nat.le_refl _) (by unfold maxLen; omega) rfl
    have e0 := (A2.trans A2l).cell d0
    have e1 := (A2.trans A2l).cell d1
    have e2 := (A2.trans A2l).cell d2
    have hbx : w.heap.size < w2.heap.size := World.block_lt_of_cell? w2 _ (A2.cell d0)
    have B2 := (B1.trans A2).trans A2l
    have HO0 := Lib.hid own0
    have p1 := A2.cell d1
    have p2 := A2.cell d2
    have HP1 := Lib.hid p1
    have HP2 := Lib.hid p2
    clear t0 t1 t2 d0 d1 d2 own0 p1 p2
    go_wp2_with fail
    refine (refStarts_any A n c ls B m d os L R s _ (ha.aft B2) (hb.aft B2) (by omega)).mono ?_
    rintro e w3 ⟨⟨SA, sn, sc, rfl, hst, hnew⟩, A3⟩
    have hstl := hst.len
    rw [natI_length] at hstl
    have hscm := hst.cmax
    have hsle := hst.le
    have hsl : sn ≤ (runesOf s).length + 1 := by rw [← hstl, ← sylP_length]; exact sylP_len _ _ _
    have HST := Lib.hid hst
    have HPL := Lib.hid (show (sylP ls (masks os) (runesOf s)).length = sn by rw [sylP_length]; exact hstl)
    have f0 := A3.cell e0
    have f1 := A3.cell e1
    have f2 := A3.cell e2
    have HO3 := Lib.hid (row_aft HO0.out A3)
    have HNEW := Lib.hid (show ∀ a, SA = some a → w2.heap.size + 1 ≤ a.block from fun a e => by have := hnew a e; simpa using this)
    have C3 : Aft w2 w3 := A2l.trans A3
    clear hst hstl hnew e0 e1 e2 HO0
    have hN : ((runesOf s).length : Int) ≤ 1000000 := by omega
    go_wp2
    go_loopw [10, 29] (fun v i wr => ∃ (k : Nat) (out : List Int), k ≤ sn ∧ i = .int .i64 (k : Nat) ∧ out.length ≤ k ∧ wr.ownsRow w2.heap.size 3 1 v out.length (out.map vI) ∧ ptsB (runesOf s).length L R (sylP ls (masks os) (runesOf s)) = out ++ ptsB (runesOf s).length L R ((sylP ls (masks os) (runesOf s)).drop k) ∧ (∀ a, SA = some a → v.ownBlock ≠ some a.block) ∧ Rw vI wr SA sn sc (natI (stP ls (masks os) (runesOf s))) ∧ Aft w2 wr) (fun _ i _ => sn - (intOf i).toNat)
    case atStart => exact ⟨0, [], Nat.zero_le _, rfl, Nat.le_refl _, HO3.out, rfl, fun a e => by have := HNEW.out a e; simp [Value.ownBlock]; omega, HST.out, C3⟩
    case round =>
      obtain ⟨k, out, hk, rfl, hol, own, hpt, hdis, hst, haf⟩ := hrel
      have HO := Lib.hid own
      have HP := Lib.hid hpt
      have HD := Lib.hid hdis
      have HS := Lib.hid hst
      have q0 : wr.cell? ⟨w.heap.size, 1, none⟩ = some (.int .i64 L) := haf.cell HP1.out
      have q1 : wr.cell? ⟨w.heap.size, 2, none⟩ = some (.int .i64 R) := haf.cell HP2.out
      clear own hpt hdis hst
      by_cases hlt : k < sn
      · have hki : (k : Int) < (sn : Int) := by omega
        obtain ⟨b, off, x, rfl, hx, g1⟩ := HS.out.at_ hlt
        obtain ⟨X, hX, rfl⟩ := natI_get hx
        have hgp := sylP_get hX
        have hpo := sylP_ok (List.mem_of_getElem? hgp)
        have hXn : X ≤ (runesOf s).length := by have := hpo.1; have := hpo.2; simp at *; omega
        have HPD := Lib.hid (show ptsB (runesOf s).length L R ((sylP ls (masks os) (runesOf s)).drop k) = (if L ≤ (X : Int) ∧ R ≤ ((runesOf s).length : Int) - (X : Int) then [(X : Int)] else []) ++ ptsB (runesOf s).length L R ((sylP ls (masks os) (runesOf s)).drop (k + 1)) by rw [drop_of_get hgp, ptsB_cons])
        have hs8 := haf.size
        by_cases hk0 : k = 0
        · have hX0 : X = 0 := stP_zero (by rw [← hk0]; exact hX)
          have hk0' : ¬ (0 : Int) < (k : Int) := by omega
          rw [if_neg (fun h => by have := h.1; omega)] at HPD
          clear hx hX hgp hpo hk0 hX0
          go_wp2
          go_roundw
          case rel => exact ⟨k + 1, out, by omega, by go_num, by omega, HO.out, by rw [HP.out, HPD.out]; rfl, HD.out, HS.out, haf⟩
          case measure => simp [intOf]; omega
        · have hk0' : (0 : Int) < (k : Int) := by omega
          clear hx hX hgp hpo hk0
          by_cases hL : L ≤ (X : Int)
          · by_cases hR : R ≤ ((runesOf s).length : Int) - (X : Int)
            · rw [if_pos ⟨hL, hR⟩] at HPD
              go_wp2_with (at_builtin; refine wpList_append_own_at _ rfl _ _ 30 rfl w2.heap.size 3 i0 _ 1 8 Tryd.underlying30 hi hz0 hz1 hz2 rfl (by decide) _ _ _ rfl (HO.out.alloc _) ⟨wr.heap.size, 0, none⟩ 1 1 [vI (X : Int)] rfl rfl (one_val _ _ _ _ rfl) (oneI _) (by unfold maxLen; omega) (by omega) (by simp; omega) ?_; intro v' w4 own2 grow2 _ hblk)
              have hrel : ∀ V, v' = V → w4.ownsRow w2.heap.size 3 1 V (out ++ [(X : Int)]).length ((out ++ [(X : Int)]).map vI) ∧ (∀ a : Addr, some (⟨b, off, none⟩ : Addr) = some a → V.ownBlock ≠ some a.block) ∧ Rw vI w4 (some ⟨b, off, none⟩) sn sc (natI (stP ls (masks os) (runesOf s))) ∧ Aft w2 w4 := by
                rintro V rfl
                refine ⟨by rw [List.length_append, List.map_append]; exact own2, ?_, ?_, (haf.alloc _).grown grow2 (fun k e => (HO.out.lt k e).1)⟩
                · intro a ea
                  cases ea
                  rcases hblk with h | h
                  · rw [h]
                    exact HD.out _ rfl
                  · rw [h]
                    intro h2
                    have h3 : b < wr.heap.size := World.block_lt_of_cell? wr _ g1
                    simp at h2
                    omega
                · exact (HS.out.aft ((Aft.refl _).alloc _)).grown grow2 (fun a ea => by cases ea; exact HD.out _ rfl)
              have HRL := Lib.hid hrel
              clear hrel
              obtain ⟨g', cap', rfl⟩ := row_succ own2
              clear own2 grow2 hblk
              go_wp2
              go_roundw
              case rel => exact ⟨k + 1, out ++ [(X : Int)], by omega, by go_num, by simp; omega, (HRL.out _ rfl).1, by rw [HP.out, HPD.out, List.append_assoc], (HRL.out _ rfl).2.1, (HRL.out _ rfl).2.2.1, (HRL.out _ rfl).2.2.2⟩
              case measure => simp [intOf]; omega
            · rw [if_neg (fun h => hR h.2)] at HPD
              go_wp2
              go_roundw
              case rel => exact ⟨k + 1, out, by omega, by go_num, by omega, HO.out, by rw [HP.out, HPD.out]; rfl, HD.out, HS.out, haf⟩
              case measure => simp [intOf]; omega
          · rw [if_neg (fun h => hL h.1)] at HPD
            go_wp2
            go_roundw
            case rel => exact ⟨k + 1, out, by omega, by go_num, by omega, HO.out, by rw [HP.out, HPD.out]; rfl, HD.out, HS.out, haf⟩
            case measure => simp [intOf]; omega
      · obtain rfl : k = sn := by omega
        have h := HP.out
        rw [List.drop_of_length_le (by rw [HPL.out]; exact Nat.le_refl _), show ptsB (runesOf s).length L R [] = [] from rfl, List.append_nil] at h
        obtain ⟨X3, c3, rfl, s3⟩ := Rw.of_row HO.out rfl
        have HS3 := Lib.hid s3
        have HH := Lib.hid h
        clear s3 h
        go_wp2
        go_ret2
        exact ⟨⟨_, _, _, rfl, by rw [HH.out]; exact HS3.out⟩, (B1.trans A2).trans haf⟩

set_option maxRecDepth 100000 in
set_option maxHeartbeats 1600000 in
theorem refHeavy_any (A : Option Addr) (n c : Nat) (ls : List Lt) (B : Option Addr) (m d : Nat) (os : List Mk) (L R : Int) (s : ByteArray) (w : World) (ha : Ll w A n c ls) (hb : Ons w B m d os) (hs : s.size ≤ 200) :
    Calls Tryd.prog 33 #[.slice A n c, pV B m d L R, .string s] w (ListPost Value.bool (if okD ls (masks os) L R s then heavyB ls (runesOf s) (sylP ls (masks os) (runesOf s)) else []) (errOf (okD ls (masks os) L R s)) w) := by
  have AL : Aft w (w.alloc (.cells #[.slice B m d, .int .i64 L, .int .i64 R] 24)) := (Aft.refl w).alloc _
  obtain ⟨t0, t1, t2⟩ := three_cells w (.slice B m d) (.int .i64 L) (.int .i64 R) 24
  obtain ⟨i0, hi, hz0, hz1, hz2⟩ := info_parts Tryd.infoB
  have hrl : (runesOf s).length ≤ 1000000 := by have := size_runesFrom s s.size 0 #[]; rw [runes_size] at this; simp at this; omega
  have H1 := refSplit_any A n c ls B m d os L R s _ (ha.aft AL) (hb.aft AL) hs
  cases hok : okD ls (masks os) L R s
  · rw [hok] at H1
    clear hok
    go_enter Tryd.func33, Tryd.ntmps33
    go_wp2_with fail
    refine H1.mono ?_
    rintro e w1 ⟨⟨X1, n1, k1, rfl, r1⟩, A1⟩
    clear H1 r1
    dsimp only [errOf]
    go_wp2
    go_ret2
    exact ⟨⟨none, 0, 0, rfl, Rw.nil⟩, AL.trans A1⟩
  · rw [hok, if_pos rfl] at H1
    have HPB := Lib.hid (fun a b => piece_back hok a b)
    clear hok
    go_enter Tryd.func33, Tryd.ntmps33
    go_wp2_with fail
    refine H1.mono ?_
    rintro e w1 ⟨⟨X1, n1, k1, rfl, r1⟩, A1⟩
    clear H1
    have hr1l := r1.len
    have hr1c := r1.cmax
    have hr1e := r1.le
    rw [show (splitB (runesOf s) (sylP ls (masks os) (runesOf s))).length = (sylP ls (masks os) (runesOf s)).length by simp [splitB]] at hr1l
    have hn1 : n1 ≤ 1000001 := by have := sylP_len ls (masks os) (runesOf s); omega
    have HR1 := Lib.hid r1
    have HL := Lib.hid hr1l
    have hok2 := Lib.hid (fun p (h : p ∈ sylP ls (masks os) (runesOf s)) => sylP_ok h)
    have B1 := AL.trans A1
    have own0 : (w1.alloc (.cells #[] 4)).ownsRow w1.heap.size 4 1 (.slice (some ⟨w1.heap.size, 0, none⟩) 0 0) 0 [] := World.ownsRow_lit w1 #[] 0 (Nat.le_refl _) (by unfold maxLen; omega) rfl
    have HO0 := Lib.hid own0
    generalize sylP ls (masks os) (runesOf s) = ps at *
    clear r1 hr1l own0 t0 t1 t2
    dsimp only [errOf]
    go_wp2
    go_loopw [10, 27] (fun v i wr => ∃ k : Nat, k ≤ n1 ∧ i = .int .i64 (k : Nat) ∧ wr.ownsRow w1.heap.size 4 1 v k ((heavyB ls (runesOf s) (ps.take k)).map Value.bool) ∧ Aft w1 wr) (fun _ i _ => n1 - (intOf i).toNat)
    case atStart => exact ⟨0, Nat.zero_le _, rfl, by simpa [heavyB] using HO0.out, (Aft.refl _).alloc _⟩
    case round =>
      obtain ⟨k, hk, rfl, own, haf⟩ := hrel
      have HO := Lib.hid own
      clear own
      by_cases hlt : k < n1
      · have hki : (k : Int) < (n1 : Int) := by omega
        obtain ⟨b, off, T, rfl, hT, g1⟩ := (HR1.out.aft haf).at_ hlt
        have hp : ps[k]? = some (ps[k]'(by rw [HL.out]; exact hlt)) := List.getElem?_eq_getElem _
        generalize ps[k]'(by rw [HL.out]; exact hlt) = p at hp
        have hTp : T = runesBytes (sub (runesOf s) p.1 p.2) := by
          unfold splitB at hT
          rw [List.getElem?_map, hp] at hT
          exact (Option.some.inj hT).symm
        have hpo := hok2.out p (List.mem_of_getElem? hp)
        have hTr : runesOf T = sub (runesOf s) p.1 p.2 := by rw [hTp]; exact HPB.out _ _
        have hTs : T.size ≤ 4000000 := by
          rw [hTp]
          have h1 := runesBytes_size_le (sub (runesOf s) p.1 p.2)
          have h2 := sub_length (rs := runesOf s) (a := p.1) (b := p.2) hpo.2
          omega
        have hcv := conv_run T (by omega) wr
        have AC := conv_aft T wr
        have hcr := conv_rr T wr
        rw [hTr, sub_length hpo.2] at hcv
        rw [hTr, sub_length hpo.2] at hcr
        obtain ⟨q, hq⟩ : ∃ q, q = p.2 - 1 - p.1 := ⟨_, rfl⟩
        obtain ⟨b3, off3, r, hA3, hr3, g3⟩ := hcr.at_ (k := q) (by omega)
        cases hA3
        have hr4 : (runesOf s)[p.2 - 1]? = some r := by
          unfold sub at hr3
          rw [List.getElem?_take_of_lt (by omega), List.getElem?_drop] at hr3
          rwa [show p.1 + q = p.2 - 1 by omega] at hr3
        have HN := Lib.hid (heavyB_next (ls := ls) (rs := runesOf s) hp)
        have HD := Lib.hid (show (runesOf s).getD (p.2 - 1) 0 = r by simp [List.getD, hr4])
        obtain ⟨P, hP⟩ : ∃ P, P = p.2 - p.1 := ⟨_, rfl⟩
        have hlast : (P : Int) - 1 = (q : Int) := by omega
        have hqp : (q : Int) < (P : Int) := by omega
        have hPm : P ≤ 1000000 := by omega
        have hqm : q ≤ 1000000 := by omega
        have hs8 := haf.size
        have HCV := Lib.hid hcv
        rw [Nat.zero_add] at g3
        rw [← hP] at hcv
        have hOc := row_aft HO.out AC
        clear hcr hr3 hr4 hT hTp hTr hp hq HCV hP
        have hWs : wr.heap.size ≤ (convW T wr).heap.size := AC.size
        generalize convW T wr = wc at *
        generalize convC T wr = Cc at *
        generalize hRB : wr.heap.size = RB at *
        have haf2 := haf.trans AC
        have HOC := Lib.hid hOc
        have hcall := refVowel_any A n c ls r wc (ha.aft (B1.trans haf2))
        generalize hV : vowB ls r = V0 at *
        have HV := Lib.hid hV
        clear hV hOc hRB
        go_wp2_with fail
        refine hcall.mono ?_
        rintro e w3 ⟨rfl, rfl⟩
        clear hcall
        go_wp2_with (at_builtin; refine wpList_append_own _ rfl _ _ 46 rfl w1.heap.size 4 i0 _ 1 1 Tryd.underlying46 hi hz0 hz1 hz2 rfl (by decide) _ _ _ rfl (HOC.out.alloc _) ⟨wc.heap.size, 0, none⟩ 1 1 [.bool (!V0)] rfl rfl (one_val _ _ _ _ rfl) (oneBool _) (by unfold maxLen; omega) (by omega) (by have := haf2.size; simp; omega) ?_; intro v' w4 own2 grow2 _)
        have A4 : Aft w1 w4 := (haf2.alloc _).grown grow2 (fun k e => (HOC.out.lt k e).1)
        have hrel : ∀ V, v' = V → w4.ownsRow w1.heap.size 4 1 V (k + 1) ((heavyB ls (runesOf s) (ps.take (k + 1))).map Value.bool) := by
          rintro V rfl
          rw [HN.out, HD.out, HV.out, List.map_append]
          exact own2
        have HRL := Lib.hid hrel
        clear hrel
        obtain ⟨g', cap', rfl⟩ := row_succ own2
        clear own2 grow2
        go_wp2
        go_roundw
        case rel => exact ⟨k + 1, by omega, by go_num, HRL.out _ rfl, A4⟩
        case measure => simp [intOf]; omega
      · obtain rfl : k = n1 := by omega
        have hO := HO.out
        rw [List.take_of_length_le (by rw [HL.out]; exact Nat.le_refl _)] at hO
        obtain ⟨X3, c3, rfl, s3⟩ := Rw.of_row hO (by simp [heavyB, HL.out])
        have HS := Lib.hid s3
        clear s3 hO
        go_wp2
        go_ret2
        exact ⟨⟨_, _, _, rfl, HS.out⟩, B1.trans haf⟩
end Go.Proofs.YtfjfgjncmliadaaDoor
