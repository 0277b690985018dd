/-
  The reference's Token, Valid and join. Conditions: the system lies where it says, its strings are no longer than a string can be; the tables of unicode/utf8 lie as their texts say.
-/
import Derived.Test.YtdehghmpfkhljaaDoorNumCmp
import Derived.Test.YtdehghmpfkhljaaDoorNumPar
import Derived.Test.YtdehghmpfkhljaaDoorNumRefP
import Derived.Deep.CutRange
import Derived.Laws.AppendOwnNone
namespace Go.Proofs.YtdehghmpfkhljaaDoor
open Go.RowKit
open NumPlain

theorem lowB_snoc (l : List UInt8) (b : UInt8) : lowB (l ++ [b]) = (lowB l || decide (b.toNat ≤ 32)) := by unfold lowB; rw [List.any_append]; simp
theorem lowB_of {l : List UInt8} {k : Nat} {b : UInt8} (hb : l[k]? = some b) (h : b.toNat ≤ 32) : lowB l = true := by
  unfold lowB
  rw [List.any_eq_true]
  exact ⟨b, List.mem_of_getElem? hb, by simpa using h⟩

set_option maxRecDepth 100000 in
set_option maxHeartbeats 1600000 in
theorem token_ref (s : BA) (w : World) (hT : Tabs w) (hs : s.size ≤ 9223372036854775807) : Calls Tryd.prog 32 #[.string s] w (BoolPost w (tokB s)) := by
  have hem := empty_iff s
  have HVS := Lib.hid (fun (w1 : World) (a : Aft w w1) => Tryd.utf8_ValidString s w1 hs (tabs_aft hT a))
  have HR := Lib.hid (tokR_eq s)
  clear hT
  go_enter Tryd.func32, Tryd.ntmps32
  go_wp2
  go_loopw [3] (fun i wr => ∃ k : Nat, k ≤ s.size ∧ i = .int .i64 (k : Nat) ∧ lowB (s.data.toList.take k) = false ∧ w = wr) (fun i _ => s.size - (intOf i).toNat)
  case atStart => exact ⟨0, Nat.zero_le _, rfl, rfl, rfl⟩
  case round =>
    obtain ⟨k, hk, rfl, hl, rfl⟩ := hrel
    have HL := Lib.hid hl
    clear hl
    by_cases hlt : k < s.size
    · have hlt' : (k : Int) < (s.size : Int) := by omega
      have hget : s.data.toList[k]? = some s[k] := by rw [List.getElem?_eq_getElem (by simpa using hlt)]; rfl
      by_cases he : s[k].toNat ≤ 32
      · have he' : (s[k].toNat : Int) ≤ 32 := by omega
        have HV := Lib.hid (show tokB s = false by rw [← HR.out]; unfold tokR; rw [lowB_of hget he]; rfl)
        clear hget he
        go_wp2
        go_ret
        exact ⟨by rw [HV.out]; rfl, Aft.refl _⟩
      · have he' : ¬ (s[k].toNat : Int) ≤ 32 := by omega
        have HN := Lib.hid (show lowB (s.data.toList.take (k + 1)) = false by rw [take_next hget, lowB_snoc, HL.out, decide_eq_false he]; rfl)
        clear hget he
        go_wp2
        go_roundw
        case rel => exact ⟨k + 1, by omega, by go_num, HN.out, trivial⟩
        case measure => simp [intOf]; omega
    · have hkN : k = s.size := by omega
      have hlt' : ¬ (k : Int) < (s.size : Int) := by omega
      have HLL := Lib.hid (show lowB s.data.toList = false by have h := HL.out; rwa [hkN, List.take_of_length_le (by simp)] at h)
      clear hkN
      by_cases h0 : s.size = 0
      · rw [decide_eq_true h0] at hem
        have HV := Lib.hid (show tokB s = false by rw [← HR.out]; unfold tokR neB; rw [decide_eq_true h0]; simp)
        clear h0
        go_wp2
        go_ret
        exact ⟨by rw [HV.out]; rfl, Aft.refl _⟩
      · rw [decide_eq_false h0] at hem
        have HV := Lib.hid (show tokB s = Lib.validD s.data.toList by rw [← HR.out]; unfold tokR neB; rw [HLL.out, decide_eq_false h0]; rfl)
        clear h0
        obtain ⟨V, hV⟩ : ∃ V, Lib.validD s.data.toList = V := ⟨_, rfl⟩
        rw [hV] at HVS HV
        clear hV
        go_wp2_with fail
        refine (HVS.out _ (Aft.refl _)).mono ?_
        rintro e w1 ⟨rfl, N1⟩
        go_wp2
        go_ret
        exact ⟨by rw [HV.out]; first | rfl | (cases V <;> rfl), N1⟩

theorem all_cons_of {l : List BA} {k : Nat} {s : BA} (hs : l[k]? = some s) (h : tokB s = false) : l.all tokB = false := by
  rw [List.all_eq_false]
  exact ⟨s, List.mem_of_getElem? hs, by simp [h]⟩
theorem all_take {l : List BA} {k : Nat} {s : BA} (hs : l[k]? = some s) (h : tokB s = true) (hk : (l.take k).all tokB = true) : (l.take (k + 1)).all tokB = true := by
  rw [take_next hs, List.all_append, hk]; simp [h]
/-- The first of the reference's questions. -/
def okR (x : Nm) : Bool := (decide (x.base = 10) || decide (x.base = 20)) && decide ((x.dn : Int) = x.base) && decide (x.pn = 3) && (decide (x.jo.size = 0) || tokB x.jo) && (decide (x.le.size = 0) || tokB x.le)
theorem okR_no {x : Nm} (h : okR x = false) : validB x = false := by
  unfold okR at h
  unfold validB
  cases h1 : (decide (x.base = 10) || decide (x.base = 20)) <;> cases h2 : decide ((x.dn : Int) = x.base) <;> cases h3 : decide (x.pn = 3) <;> cases h4 : (decide (x.jo.size = 0) || tokB x.jo) <;> cases h5 : (decide (x.le.size = 0) || tokB x.le) <;> simp_all
theorem okR_ds {x : Nm} (h : x.ds.all tokB = false) : validB x = false := by unfold validB; rw [h]; simp
theorem okR_ps {x : Nm} (h : x.ps.all tokB = false) : validB x = false := by unfold validB; rw [h]; simp
theorem okR_yes {x : Nm} (h : okR x = true) (hd : x.ds.all tokB = true) (hp : x.ps.all tokB = true) : validB x = (decide (0 ≤ x.sub) && decide (x.sub ≤ x.base / 2 - 1) && (decide (x.sub = 0) || !decide (x.le.size = 0))) := by
  unfold okR at h
  simp only [Bool.and_eq_true] at h
  obtain ⟨⟨⟨⟨h1, h2⟩, h3⟩, h4⟩, h5⟩ := h
  unfold validB
  rw [h1, h2, h3, h4, h5, hd, hp]
  simp only [Bool.true_and, Bool.and_true]
  by_cases a : x.sub < 0
  · rw [decide_eq_true a, decide_eq_false (show ¬ 0 ≤ x.sub by omega)]; rfl
  · rw [decide_eq_false a, decide_eq_true (show 0 ≤ x.sub by omega)]
    by_cases b : x.base / 2 ≤ x.sub
    · rw [decide_eq_true b, decide_eq_false (show ¬ x.sub ≤ x.base / 2 - 1 by omega)]; rfl
    · rw [decide_eq_false b, decide_eq_true (show x.sub ≤ x.base / 2 - 1 by omega)]
      by_cases c : x.sub = 0
      · rw [decide_eq_true c, decide_eq_false (show ¬ 0 < x.sub by omega)]; rfl
      · rw [decide_eq_false c, decide_eq_true (show 0 < x.sub by omega)]; cases decide (x.le.size = 0) <;> rfl


set_option maxRecDepth 100000 in
set_option maxHeartbeats 6400000 in
theorem refValid_any (x : Nm) (w : World) (hT : Tabs w) (hw : Nw w x) (hz : Sz x) (hb : (Lit.int .i64 x.base).wf = true) : Calls Tryd.prog 15 #[nV x] w (BoolPost w (validB x)) := by
  have hbr := wf_range hb
  clear hb
  obtain ⟨B, da, dn, dc, ds, pa, pn, pc, ps, sf, jo, sub, le, om⟩ := x
  by_cases hb1 : B = 10 ∨ B = 20
  · rcases hb1 with rfl | rfl
    · clear hbr
      by_cases hd : dn = 10
      · subst hd
        by_cases hp : pn = 3
        · subst hp
          have AL : Aft w (w.alloc (.cells #[.int .i64 10, .slice da 10 dc, .slice pa 3 pc, .bool sf, .string jo, .int .i64 sub, .string le, .bool om] 24)) := (Aft.refl w).alloc _
          have HT := Lib.hid (tabs_aft hT AL)
          have HW := Lib.hid (hw.aft AL)
          have HZ := Lib.hid hz
          have HBX := Lib.hid (show Bx (w.alloc (.cells #[.int .i64 10, .slice da 10 dc, .slice pa 3 pc, .bool sf, .string jo, .int .i64 sub, .string le, .bool om] 24)) w.heap.size (⟨10, da, 10, dc, ds, pa, 3, pc, ps, sf, jo, sub, le, om⟩ : Nm) from Bx.new w (⟨10, da, 10, dc, ds, pa, 3, pc, ps, sf, jo, sub, le, om⟩ : Nm) 24)
          have HAL := Lib.hid AL
          have hdle : 10 ≤ dc := hw.rd.le
          have hdcm : dc ≤ 9223372036854775807 := hw.rd.cmax
          have hple : 3 ≤ pc := hw.rp.le
          have hpcm : pc ≤ 9223372036854775807 := hw.rp.cmax
          have HLD := Lib.hid (show ds.length = 10 from hw.rd.len)
          have HLP := Lib.hid (show ps.length = 3 from hw.rp.len)
          have hej := empty_iff jo
          have hel := empty_iff le
          clear hT hw hz AL
          have HK : jo.size = 0 ∨ (¬ jo.size = 0 ∧ tokB jo = true) ∨ (¬ jo.size = 0 ∧ tokB jo = false) := by
            by_cases h0 : jo.size = 0
            · exact .inl h0
            · cases ht : tokB jo
              · exact .inr (.inr ⟨h0, rfl⟩)
              · exact .inr (.inl ⟨h0, rfl⟩)
          have HL : le.size = 0 ∨ (¬ le.size = 0 ∧ tokB le = true) ∨ (¬ le.size = 0 ∧ tokB le = false) := by
            by_cases h0 : le.size = 0
            · exact .inl h0
            · cases ht : tokB le
              · exact .inr (.inr ⟨h0, rfl⟩)
              · exact .inr (.inl ⟨h0, rfl⟩)
          have HOK := Lib.hid (show okR (⟨10, da, 10, dc, ds, pa, 3, pc, ps, sf, jo, sub, le, om⟩ : Nm) = ((decide (jo.size = 0) || tokB jo) && (decide (le.size = 0) || tokB le)) from rfl)
          have HKK := Lib.hid HK
          have HLL := Lib.hid HL
          clear HK HL
          go_enter Tryd.func15, Tryd.ntmps15
          go_upto_region 1 with fail
          go_cut [48] from 5 to 48 (fun c wx => c = .bool (!okR (⟨10, da, 10, dc, ds, pa, 3, pc, ps, sf, jo, sub, le, om⟩ : Nm)) ∧ Aft (w.alloc (.cells #[.int .i64 10, .slice da 10 dc, .slice pa 3 pc, .bool sf, .string jo, .int .i64 sub, .string le, .bool om] 24)) wx)
          case first =>
            have D0 : Aft (w.alloc (.cells #[.int .i64 10, .slice da 10 dc, .slice pa 3 pc, .bool sf, .string jo, .int .i64 sub, .string le, .bool om] 24)) (w.alloc (.cells #[.int .i64 10, .slice da 10 dc, .slice pa 3 pc, .bool sf, .string jo, .int .i64 sub, .string le, .bool om] 24)) := Aft.refl _
            obtain ⟨c0, c1, c2, c3, c4, c5, c6, c7⟩ := HBX.out.aft D0
            dsimp only at c0 c1 c2 c3 c4 c5 c6 c7
            rcases HKK.out with hj | ⟨hj, tj⟩ | ⟨hj, tj⟩
            · rw [decide_eq_true hj] at hej
              rcases HLL.out with hl | ⟨hl, tl⟩ | ⟨hl, tl⟩
              · rw [decide_eq_true hl] at hel
                have HV := Lib.hid (show okR (⟨10, da, 10, dc, ds, pa, 3, pc, ps, sf, jo, sub, le, om⟩ : Nm) = true by rw [HOK.out, decide_eq_true hj, decide_eq_true hl]; simp)
                go_wp2
                go_meet
                exact ⟨by rw [HV.out]; rfl, D0⟩
              · rw [decide_eq_false hl] at hel
                have HV := Lib.hid (show okR (⟨10, da, 10, dc, ds, pa, 3, pc, ps, sf, jo, sub, le, om⟩ : Nm) = true by rw [HOK.out, decide_eq_true hj, tl, Bool.or_true]; simp)
                go_wp2_with fail
                have h1 := token_ref le _ (tabs_aft HT.out D0) HZ.out.l
                rw [tl] at h1
                refine h1.mono ?_
                rintro e v1 ⟨rfl, N1⟩
                clear h1
                have D1 := D0.trans N1
                go_wp2
                go_meet
                exact ⟨by rw [HV.out]; rfl, D1⟩
              · rw [decide_eq_false hl] at hel
                have HV := Lib.hid (show okR (⟨10, da, 10, dc, ds, pa, 3, pc, ps, sf, jo, sub, le, om⟩ : Nm) = false by rw [HOK.out, decide_eq_true hj, decide_eq_false hl, tl]; simp)
                go_wp2_with fail
                have h1 := token_ref le _ (tabs_aft HT.out D0) HZ.out.l
                rw [tl] at h1
                refine h1.mono ?_
                rintro e v1 ⟨rfl, N1⟩
                clear h1
                have D1 := D0.trans N1
                go_wp2
                go_meet
                exact ⟨by rw [HV.out]; rfl, D1⟩
            · rw [decide_eq_false hj] at hej
              rcases HLL.out with hl | ⟨hl, tl⟩ | ⟨hl, tl⟩
              · rw [decide_eq_true hl] at hel
                have HV := Lib.hid (show okR (⟨10, da, 10, dc, ds, pa, 3, pc, ps, sf, jo, sub, le, om⟩ : Nm) = true by rw [HOK.out, tj, Bool.or_true, decide_eq_true hl]; simp)
                go_wp2_with fail
                have h1 := token_ref jo _ (tabs_aft HT.out D0) HZ.out.j
                rw [tj] at h1
                refine h1.mono ?_
                rintro e v1 ⟨rfl, N1⟩
                clear h1
                have D1 := D0.trans N1
                clear c0 c1 c2 c3 c4 c5 c6 c7
                obtain ⟨c0, c1, c2, c3, c4, c5, c6, c7⟩ := HBX.out.aft D1
                dsimp only at c0 c1 c2 c3 c4 c5 c6 c7
                go_wp2
                go_meet
                exact ⟨by rw [HV.out]; rfl, D1⟩
              · rw [decide_eq_false hl] at hel
                have HV := Lib.hid (show okR (⟨10, da, 10, dc, ds, pa, 3, pc, ps, sf, jo, sub, le, om⟩ : Nm) = true by rw [HOK.out, tj, Bool.or_true, tl, Bool.or_true]; simp)
                go_wp2_with fail
                have h1 := token_ref jo _ (tabs_aft HT.out D0) HZ.out.j
                rw [tj] at h1
                refine h1.mono ?_
                rintro e v1 ⟨rfl, N1⟩
                clear h1
                have D1 := D0.trans N1
                clear c0 c1 c2 c3 c4 c5 c6 c7
                obtain ⟨c0, c1, c2, c3, c4, c5, c6, c7⟩ := HBX.out.aft D1
                dsimp only at c0 c1 c2 c3 c4 c5 c6 c7
                go_wp2_with fail
                have h1 := token_ref le _ (tabs_aft HT.out D1) HZ.out.l
                rw [tl] at h1
                refine h1.mono ?_
                rintro e v2 ⟨rfl, N2⟩
                clear h1
                have D2 := D1.trans N2
                go_wp2
                go_meet
                exact ⟨by rw [HV.out]; rfl, D2⟩
              · rw [decide_eq_false hl] at hel
                have HV := Lib.hid (show okR (⟨10, da, 10, dc, ds, pa, 3, pc, ps, sf, jo, sub, le, om⟩ : Nm) = false by rw [HOK.out, tj, Bool.or_true, decide_eq_false hl, tl]; simp)
                go_wp2_with fail
                have h1 := token_ref jo _ (tabs_aft HT.out D0) HZ.out.j
                rw [tj] at h1
                refine h1.mono ?_
                rintro e v1 ⟨rfl, N1⟩
                clear h1
                have D1 := D0.trans N1
                clear c0 c1 c2 c3 c4 c5 c6 c7
                obtain ⟨c0, c1, c2, c3, c4, c5, c6, c7⟩ := HBX.out.aft D1
                dsimp only at c0 c1 c2 c3 c4 c5 c6 c7
                go_wp2_with fail
                have h1 := token_ref le _ (tabs_aft HT.out D1) HZ.out.l
                rw [tl] at h1
                refine h1.mono ?_
                rintro e v2 ⟨rfl, N2⟩
                clear h1
                have D2 := D1.trans N2
                go_wp2
                go_meet
                exact ⟨by rw [HV.out]; rfl, D2⟩
            · rw [decide_eq_false hj] at hej
              have HV := Lib.hid (show okR (⟨10, da, 10, dc, ds, pa, 3, pc, ps, sf, jo, sub, le, om⟩ : Nm) = false by rw [HOK.out, decide_eq_false hj, tj]; rfl)
              go_wp2_with fail
              have h1 := token_ref jo _ (tabs_aft HT.out D0) HZ.out.j
              rw [tj] at h1
              refine h1.mono ?_
              rintro e v1 ⟨rfl, N1⟩
              clear h1
              have D1 := D0.trans N1
              go_wp2
              go_meet
              exact ⟨by rw [HV.out]; rfl, D1⟩
          case rest =>
            obtain ⟨rfl, hA⟩ := hcut
            have HA := Lib.hid hA
            clear hA
            cases hok : okR (⟨10, da, 10, dc, ds, pa, 3, pc, ps, sf, jo, sub, le, om⟩ : Nm)
            · have HV := Lib.hid (okR_no (x := (⟨10, da, 10, dc, ds, pa, 3, pc, ps, sf, jo, sub, le, om⟩ : Nm)) hok)
              clear hok
              go_wp2
              go_ret
              exact ⟨by rw [HV.out]; rfl, HAL.out.trans HA.out⟩
            · have HOK := Lib.hid hok
              clear hok
              go_wp2
              go_loopw [3] (fun i wr => ∃ k : Nat, k ≤ 10 ∧ i = .int .i64 (k : Nat) ∧ (ds.take k).all tokB = true ∧ Aft (w.alloc (.cells #[.int .i64 10, .slice da 10 dc, .slice pa 3 pc, .bool sf, .string jo, .int .i64 sub, .string le, .bool om] 24)) wr) (fun i _ => 10 - (intOf i).toNat)
              case atStart => exact ⟨0, Nat.zero_le _, rfl, rfl, HA.out⟩
              case round =>
                obtain ⟨k, hk, rfl, hl, haf⟩ := hrel
                have HL1 := Lib.hid hl
                have HF1 := Lib.hid haf
                clear hl haf
                by_cases hlt : k < 10
                · obtain ⟨b, off, s, hA, hs, g1⟩ := (HW.out.rd.aft HF1.out).at_ hlt
                  have hss := HZ.out.d s (List.mem_of_getElem? hs)
                  obtain ⟨c0, c1, c2, c3, c4, c5, c6, c7⟩ := HBX.out.aft HF1.out
                  dsimp only at c0 c1 c2 c3 c4 c5 c6 c7
                  (try dsimp only at hA)
                  rw [hA] at c1
                  have hki : (k : Int) < (10 : Int) := by omega
                  cases ht : tokB s
                  · have HV := Lib.hid (okR_ds (x := (⟨10, da, 10, dc, ds, pa, 3, pc, ps, sf, jo, sub, le, om⟩ : Nm)) (all_cons_of hs ht))
                    have HC := Lib.hid (show Calls Tryd.prog 32 #[.string s] _ (BoolPost _ false) from ht ▸ token_ref s _ (tabs_aft HT.out HF1.out) hss)
                    clear hs ht hA
                    go_wp2_with fail
                    refine HC.out.mono ?_
                    rintro e v1 ⟨rfl, N1⟩
                    go_wp2
                    go_ret
                    exact ⟨by rw [HV.out]; rfl, HAL.out.trans (HF1.out.trans N1)⟩
                  · have HN := Lib.hid (all_take hs ht HL1.out)
                    have HC := Lib.hid (show Calls Tryd.prog 32 #[.string s] _ (BoolPost _ true) from ht ▸ token_ref s _ (tabs_aft HT.out HF1.out) hss)
                    clear hs ht hA
                    go_wp2_with fail
                    refine HC.out.mono ?_
                    rintro e v1 ⟨rfl, N1⟩
                    go_wp2
                    go_roundw
                    case rel => (repeat apply Exists.intro); exact ⟨⟨k + 1, by omega, by go_num, HN.out, HF1.out.trans N1⟩, rfl⟩
                    case measure => simp [intOf]; omega
                · obtain rfl : k = 10 := by omega
                  have HE1 := Lib.hid (show ds.all tokB = true by have h := HL1.out; rwa [List.take_of_length_le (by rw [HLD.out]; exact Nat.le_refl _)] at h)
                  obtain ⟨c0, c1, c2, c3, c4, c5, c6, c7⟩ := HBX.out.aft HF1.out
                  dsimp only at c0 c1 c2 c3 c4 c5 c6 c7
                  go_wp2
                  clear c0 c1 c2 c3 c4 c5 c6 c7
                  go_loopw [4] (fun i wr => ∃ k : Nat, k ≤ 3 ∧ i = .int .i64 (k : Nat) ∧ (ps.take k).all tokB = true ∧ Aft (w.alloc (.cells #[.int .i64 10, .slice da 10 dc, .slice pa 3 pc, .bool sf, .string jo, .int .i64 sub, .string le, .bool om] 24)) wr) (fun i _ => 3 - (intOf i).toNat)
                  case atStart => exact ⟨0, Nat.zero_le _, rfl, rfl, HF1.out⟩
                  case round =>
                    obtain ⟨k, hk, rfl, hl, haf⟩ := hrel
                    have HL2 := Lib.hid hl
                    have HF2 := Lib.hid haf
                    clear hl haf
                    by_cases hlt : k < 3
                    · obtain ⟨b, off, s, hA, hs, g1⟩ := (HW.out.rp.aft HF2.out).at_ hlt
                      have hss := HZ.out.p s (List.mem_of_getElem? hs)
                      obtain ⟨c0, c1, c2, c3, c4, c5, c6, c7⟩ := HBX.out.aft HF2.out
                      dsimp only at c0 c1 c2 c3 c4 c5 c6 c7
                      (try dsimp only at hA)
                      rw [hA] at c2
                      have hki : (k : Int) < (3 : Int) := by omega
                      cases ht : tokB s
                      · have HV := Lib.hid (okR_ps (x := (⟨10, da, 10, dc, ds, pa, 3, pc, ps, sf, jo, sub, le, om⟩ : Nm)) (all_cons_of hs ht))
                        have HC := Lib.hid (show Calls Tryd.prog 32 #[.string s] _ (BoolPost _ false) from ht ▸ token_ref s _ (tabs_aft HT.out HF2.out) hss)
                        clear hs ht hA
                        go_wp2_with fail
                        refine HC.out.mono ?_
                        rintro e v1 ⟨rfl, N1⟩
                        go_wp2
                        go_ret
                        exact ⟨by rw [HV.out]; rfl, HAL.out.trans (HF2.out.trans N1)⟩
                      · have HN := Lib.hid (all_take hs ht HL2.out)
                        have HC := Lib.hid (show Calls Tryd.prog 32 #[.string s] _ (BoolPost _ true) from ht ▸ token_ref s _ (tabs_aft HT.out HF2.out) hss)
                        clear hs ht hA
                        go_wp2_with fail
                        refine HC.out.mono ?_
                        rintro e v1 ⟨rfl, N1⟩
                        go_wp2
                        go_roundw
                        case rel => (repeat apply Exists.intro); exact ⟨⟨k + 1, by omega, by go_num, HN.out, HF2.out.trans N1⟩, rfl⟩
                        case measure => simp [intOf]; omega
                    · obtain rfl : k = 3 := by omega
                      have HE2 := Lib.hid (show ps.all tokB = true by have h := HL2.out; rwa [List.take_of_length_le (by rw [HLP.out]; exact Nat.le_refl _)] at h)
                      obtain ⟨c0, c1, c2, c3, c4, c5, c6, c7⟩ := HBX.out.aft HF2.out
                      dsimp only at c0 c1 c2 c3 c4 c5 c6 c7
                      have HV := Lib.hid (okR_yes (x := (⟨10, da, 10, dc, ds, pa, 3, pc, ps, sf, jo, sub, le, om⟩ : Nm)) HOK.out HE1.out HE2.out)
                      dsimp only at HV
                      by_cases a : 0 ≤ sub
                      · rw [decide_eq_true a] at HV
                        by_cases b : sub ≤ 10 / 2 - 1
                        · rw [decide_eq_true b] at HV
                          by_cases c : sub = 0
                          · rw [decide_eq_true c] at HV
                            go_wp2
                            go_ret
                            exact ⟨by rw [HV.out]; rfl, HAL.out.trans HF2.out⟩
                          · rw [decide_eq_false c] at HV
                            have cb : (sub == 0) = false := by simp [c]
                            have cc : (sub != 0) = true := by simp [c]
                            by_cases d : le.size = 0
                            · rw [decide_eq_true d] at HV hel
                              clear d
                              go_wp2
                              go_ret
                              exact ⟨by rw [HV.out]; rfl, HAL.out.trans HF2.out⟩
                            · rw [decide_eq_false d] at HV hel
                              clear d
                              go_wp2
                              go_ret
                              exact ⟨by rw [HV.out]; rfl, HAL.out.trans HF2.out⟩
                        · rw [decide_eq_false b] at HV
                          go_wp2
                          go_ret
                          exact ⟨by rw [HV.out]; rfl, HAL.out.trans HF2.out⟩
                      · rw [decide_eq_false a] at HV
                        go_wp2
                        go_ret
                        exact ⟨by rw [HV.out]; rfl, HAL.out.trans HF2.out⟩
        · have hpi : ¬ (pn : Int) = 3 := by omega
          have HVX : okR (⟨10, da, 10, dc, ds, pa, pn, pc, ps, sf, jo, sub, le, om⟩ : Nm) = false := by unfold okR; rw [decide_eq_false (show ¬ pn = 3 from hp)]; simp
          have HV := Lib.hid (okR_no (x := (⟨10, da, 10, dc, ds, pa, pn, pc, ps, sf, jo, sub, le, om⟩ : Nm)) HVX)
          have AL : Aft w (w.alloc (.cells #[.int .i64 10, .slice da 10 dc, .slice pa pn pc, .bool sf, .string jo, .int .i64 sub, .string le, .bool om] 24)) := (Aft.refl w).alloc _
          have HT := Lib.hid (tabs_aft hT AL)
          have HW := Lib.hid (hw.aft AL)
          have HZ := Lib.hid hz
          have HBX := Lib.hid (show Bx (w.alloc (.cells #[.int .i64 10, .slice da 10 dc, .slice pa pn pc, .bool sf, .string jo, .int .i64 sub, .string le, .bool om] 24)) w.heap.size (⟨10, da, 10, dc, ds, pa, pn, pc, ps, sf, jo, sub, le, om⟩ : Nm) from Bx.new w (⟨10, da, 10, dc, ds, pa, pn, pc, ps, sf, jo, sub, le, om⟩ : Nm) 24)
          have HAL := Lib.hid AL
          have hdle : 10 ≤ dc := hw.rd.le
          have hdcm : dc ≤ 9223372036854775807 := hw.rd.cmax
          have hple : pn ≤ pc := hw.rp.le
          have hpcm : pc ≤ 9223372036854775807 := hw.rp.cmax
          have HLD := Lib.hid (show ds.length = 10 from hw.rd.len)
          have HLP := Lib.hid (show ps.length = pn from hw.rp.len)
          have hej := empty_iff jo
          have hel := empty_iff le
          clear hT hw hz AL
          obtain ⟨c0, c1, c2, c3, c4, c5, c6, c7⟩ := HBX.out
          dsimp only at c0 c1 c2 c3 c4 c5 c6 c7
          go_enter Tryd.func15, Tryd.ntmps15
          go_wp2
          go_ret
          exact ⟨by rw [HV.out]; rfl, HAL.out⟩
      · have hdi : ¬ (dn : Int) = 10 := by omega
        have HVX : okR (⟨10, da, dn, dc, ds, pa, pn, pc, ps, sf, jo, sub, le, om⟩ : Nm) = false := by unfold okR; rw [decide_eq_false (show ¬ (dn : Int) = 10 from hdi)]; simp
        have HV := Lib.hid (okR_no (x := (⟨10, da, dn, dc, ds, pa, pn, pc, ps, sf, jo, sub, le, om⟩ : Nm)) HVX)
        have AL : Aft w (w.alloc (.cells #[.int .i64 10, .slice da dn dc, .slice pa pn pc, .bool sf, .string jo, .int .i64 sub, .string le, .bool om] 24)) := (Aft.refl w).alloc _
        have HT := Lib.hid (tabs_aft hT AL)
        have HW := Lib.hid (hw.aft AL)
        have HZ := Lib.hid hz
        have HBX := Lib.hid (show Bx (w.alloc (.cells #[.int .i64 10, .slice da dn dc, .slice pa pn pc, .bool sf, .string jo, .int .i64 sub, .string le, .bool om] 24)) w.heap.size (⟨10, da, dn, dc, ds, pa, pn, pc, ps, sf, jo, sub, le, om⟩ : Nm) from Bx.new w (⟨10, da, dn, dc, ds, pa, pn, pc, ps, sf, jo, sub, le, om⟩ : Nm) 24)
        have HAL := Lib.hid AL
        have hdle : dn ≤ dc := hw.rd.le
        have hdcm : dc ≤ 9223372036854775807 := hw.rd.cmax
        have hple : pn ≤ pc := hw.rp.le
        have hpcm : pc ≤ 9223372036854775807 := hw.rp.cmax
        have HLD := Lib.hid (show ds.length = dn from hw.rd.len)
        have HLP := Lib.hid (show ps.length = pn from hw.rp.len)
        have hej := empty_iff jo
        have hel := empty_iff le
        clear hT hw hz AL
        obtain ⟨c0, c1, c2, c3, c4, c5, c6, c7⟩ := HBX.out
        dsimp only at c0 c1 c2 c3 c4 c5 c6 c7
        go_enter Tryd.func15, Tryd.ntmps15
        go_wp2
        go_ret
        exact ⟨by rw [HV.out]; rfl, HAL.out⟩
    · clear hbr
      by_cases hd : dn = 20
      · subst hd
        by_cases hp : pn = 3
        · subst hp
          have AL : Aft w (w.alloc (.cells #[.int .i64 20, .slice da 20 dc, .slice pa 3 pc, .bool sf, .string jo, .int .i64 sub, .string le, .bool om] 24)) := (Aft.refl w).alloc _
          have HT := Lib.hid (tabs_aft hT AL)
          have HW := Lib.hid (hw.aft AL)
          have HZ := Lib.hid hz
          have HBX := Lib.hid (show Bx (w.alloc (.cells #[.int .i64 20, .slice da 20 dc, .slice pa 3 pc, .bool sf, .string jo, .int .i64 sub, .string le, .bool om] 24)) w.heap.size (⟨20, da, 20, dc, ds, pa, 3, pc, ps, sf, jo, sub, le, om⟩ : Nm) from Bx.new w (⟨20, da, 20, dc, ds, pa, 3, pc, ps, sf, jo, sub, le, om⟩ : Nm) 24)
          have HAL := Lib.hid AL
          have hdle : 20 ≤ dc := hw.rd.le
          have hdcm : dc ≤ 9223372036854775807 := hw.rd.cmax
          have hple : 3 ≤ pc := hw.rp.le
          have hpcm : pc ≤ 9223372036854775807 := hw.rp.cmax
          have HLD := Lib.hid (show ds.length = 20 from hw.rd.len)
          have HLP := Lib.hid (show ps.length = 3 from hw.rp.len)
          have hej := empty_iff jo
          have hel := empty_iff le
          clear hT hw hz AL
          have HK : jo.size = 0 ∨ (¬ jo.size = 0 ∧ tokB jo = true) ∨ (¬ jo.size = 0 ∧ tokB jo = false) := by
            by_cases h0 : jo.size = 0
            · exact .inl h0
            · cases ht : tokB jo
              · exact .inr (.inr ⟨h0, rfl⟩)
              · exact .inr (.inl ⟨h0, rfl⟩)
          have HL : le.size = 0 ∨ (¬ le.size = 0 ∧ tokB le = true) ∨ (¬ le.size = 0 ∧ tokB le = false) := by
            by_cases h0 : le.size = 0
            · exact .inl h0
            · cases ht : tokB le
              · exact .inr (.inr ⟨h0, rfl⟩)
              · exact .inr (.inl ⟨h0, rfl⟩)
          have HOK := Lib.hid (show okR (⟨20, da, 20, dc, ds, pa, 3, pc, ps, sf, jo, sub, le, om⟩ : Nm) = ((decide (jo.size = 0) || tokB jo) && (decide (le.size = 0) || tokB le)) from rfl)
          have HKK := Lib.hid HK
          have HLL := Lib.hid HL
          clear HK HL
          go_enter Tryd.func15, Tryd.ntmps15
          go_upto_region 1 with fail
          go_cut [48] from 5 to 48 (fun c wx => c = .bool (!okR (⟨20, da, 20, dc, ds, pa, 3, pc, ps, sf, jo, sub, le, om⟩ : Nm)) ∧ Aft (w.alloc (.cells #[.int .i64 20, .slice da 20 dc, .slice pa 3 pc, .bool sf, .string jo, .int .i64 sub, .string le, .bool om] 24)) wx)
          case first =>
            have D0 : Aft (w.alloc (.cells #[.int .i64 20, .slice da 20 dc, .slice pa 3 pc, .bool sf, .string jo, .int .i64 sub, .string le, .bool om] 24)) (w.alloc (.cells #[.int .i64 20, .slice da 20 dc, .slice pa 3 pc, .bool sf, .string jo, .int .i64 sub, .string le, .bool om] 24)) := Aft.refl _
            obtain ⟨c0, c1, c2, c3, c4, c5, c6, c7⟩ := HBX.out.aft D0
            dsimp only at c0 c1 c2 c3 c4 c5 c6 c7
            rcases HKK.out with hj | ⟨hj, tj⟩ | ⟨hj, tj⟩
            · rw [decide_eq_true hj] at hej
              rcases HLL.out with hl | ⟨hl, tl⟩ | ⟨hl, tl⟩
              · rw [decide_eq_true hl] at hel
                have HV := Lib.hid (show okR (⟨20, da, 20, dc, ds, pa, 3, pc, ps, sf, jo, sub, le, om⟩ : Nm) = true by rw [HOK.out, decide_eq_true hj, decide_eq_true hl]; simp)
                go_wp2
                go_meet
                exact ⟨by rw [HV.out]; rfl, D0⟩
              · rw [decide_eq_false hl] at hel
                have HV := Lib.hid (show okR (⟨20, da, 20, dc, ds, pa, 3, pc, ps, sf, jo, sub, le, om⟩ : Nm) = true by rw [HOK.out, decide_eq_true hj, tl, Bool.or_true]; simp)
                go_wp2_with fail
                have h1 := token_ref le _ (tabs_aft HT.out D0) HZ.out.l
                rw [tl] at h1
                refine h1.mono ?_
                rintro e v1 ⟨rfl, N1⟩
                clear h1
                have D1 := D0.trans N1
                go_wp2
                go_meet
                exact ⟨by rw [HV.out]; rfl, D1⟩
              · rw [decide_eq_false hl] at hel
                have HV := Lib.hid (show okR (⟨20, da, 20, dc, ds, pa, 3, pc, ps, sf, jo, sub, le, om⟩ : Nm) = false by rw [HOK.out, decide_eq_true hj, decide_eq_false hl, tl]; simp)
                go_wp2_with fail
                have h1 := token_ref le _ (tabs_aft HT.out D0) HZ.out.l
                rw [tl] at h1
                refine h1.mono ?_
                rintro e v1 ⟨rfl, N1⟩
                clear h1
                have D1 := D0.trans N1
                go_wp2
                go_meet
                exact ⟨by rw [HV.out]; rfl, D1⟩
            · rw [decide_eq_false hj] at hej
              rcases HLL.out with hl | ⟨hl, tl⟩ | ⟨hl, tl⟩
              · rw [decide_eq_true hl] at hel
                have HV := Lib.hid (show okR (⟨20, da, 20, dc, ds, pa, 3, pc, ps, sf, jo, sub, le, om⟩ : Nm) = true by rw [HOK.out, tj, Bool.or_true, decide_eq_true hl]; simp)
                go_wp2_with fail
                have h1 := token_ref jo _ (tabs_aft HT.out D0) HZ.out.j
                rw [tj] at h1
                refine h1.mono ?_
                rintro e v1 ⟨rfl, N1⟩
                clear h1
                have D1 := D0.trans N1
                clear c0 c1 c2 c3 c4 c5 c6 c7
                obtain ⟨c0, c1, c2, c3, c4, c5, c6, c7⟩ := HBX.out.aft D1
                dsimp only at c0 c1 c2 c3 c4 c5 c6 c7
                go_wp2
                go_meet
                exact ⟨by rw [HV.out]; rfl, D1⟩
              · rw [decide_eq_false hl] at hel
                have HV := Lib.hid (show okR (⟨20, da, 20, dc, ds, pa, 3, pc, ps, sf, jo, sub, le, om⟩ : Nm) = true by rw [HOK.out, tj, Bool.or_true, tl, Bool.or_true]; simp)
                go_wp2_with fail
                have h1 := token_ref jo _ (tabs_aft HT.out D0) HZ.out.j
                rw [tj] at h1
                refine h1.mono ?_
                rintro e v1 ⟨rfl, N1⟩
                clear h1
                have D1 := D0.trans N1
                clear c0 c1 c2 c3 c4 c5 c6 c7
                obtain ⟨c0, c1, c2, c3, c4, c5, c6, c7⟩ := HBX.out.aft D1
                dsimp only at c0 c1 c2 c3 c4 c5 c6 c7
                go_wp2_with fail
                have h1 := token_ref le _ (tabs_aft HT.out D1) HZ.out.l
                rw [tl] at h1
                refine h1.mono ?_
                rintro e v2 ⟨rfl, N2⟩
                clear h1
                have D2 := D1.trans N2
                go_wp2
                go_meet
                exact ⟨by rw [HV.out]; rfl, D2⟩
              · rw [decide_eq_false hl] at hel
                have HV := Lib.hid (show okR (⟨20, da, 20, dc, ds, pa, 3, pc, ps, sf, jo, sub, le, om⟩ : Nm) = false by rw [HOK.out, tj, Bool.or_true, decide_eq_false hl, tl]; simp)
                go_wp2_with fail
                have h1 := token_ref jo _ (tabs_aft HT.out D0) HZ.out.j
                rw [tj] at h1
                refine h1.mono ?_
                rintro e v1 ⟨rfl, N1⟩
                clear h1
                have D1 := D0.trans N1
                clear c0 c1 c2 c3 c4 c5 c6 c7
                obtain ⟨c0, c1, c2, c3, c4, c5, c6, c7⟩ := HBX.out.aft D1
                dsimp only at c0 c1 c2 c3 c4 c5 c6 c7
                go_wp2_with fail
                have h1 := token_ref le _ (tabs_aft HT.out D1) HZ.out.l
                rw [tl] at h1
                refine h1.mono ?_
                rintro e v2 ⟨rfl, N2⟩
                clear h1
                have D2 := D1.trans N2
                go_wp2
                go_meet
                exact ⟨by rw [HV.out]; rfl, D2⟩
            · rw [decide_eq_false hj] at hej
              have HV := Lib.hid (show okR (⟨20, da, 20, dc, ds, pa, 3, pc, ps, sf, jo, sub, le, om⟩ : Nm) = false by rw [HOK.out, decide_eq_false hj, tj]; rfl)
              go_wp2_with fail
              have h1 := token_ref jo _ (tabs_aft HT.out D0) HZ.out.j
              rw [tj] at h1
              refine h1.mono ?_
              rintro e v1 ⟨rfl, N1⟩
              clear h1
              have D1 := D0.trans N1
              go_wp2
              go_meet
              exact ⟨by rw [HV.out]; rfl, D1⟩
          case rest =>
            obtain ⟨rfl, hA⟩ := hcut
            have HA := Lib.hid hA
            clear hA
            cases hok : okR (⟨20, da, 20, dc, ds, pa, 3, pc, ps, sf, jo, sub, le, om⟩ : Nm)
            · have HV := Lib.hid (okR_no (x := (⟨20, da, 20, dc, ds, pa, 3, pc, ps, sf, jo, sub, le, om⟩ : Nm)) hok)
              clear hok
              go_wp2
              go_ret
              exact ⟨by rw [HV.out]; rfl, HAL.out.trans HA.out⟩
            · have HOK := Lib.hid hok
              clear hok
              go_wp2
              go_loopw [3] (fun i wr => ∃ k : Nat, k ≤ 20 ∧ i = .int .i64 (k : Nat) ∧ (ds.take k).all tokB = true ∧ Aft (w.alloc (.cells #[.int .i64 20, .slice da 20 dc, .slice pa 3 pc, .bool sf, .string jo, .int .i64 sub, .string le, .bool om] 24)) wr) (fun i _ => 20 - (intOf i).toNat)
              case atStart => exact ⟨0, Nat.zero_le _, rfl, rfl, HA.out⟩
              case round =>
                obtain ⟨k, hk, rfl, hl, haf⟩ := hrel
                have HL1 := Lib.hid hl
                have HF1 := Lib.hid haf
                clear hl haf
                by_cases hlt : k < 20
                · obtain ⟨b, off, s, hA, hs, g1⟩ := (HW.out.rd.aft HF1.out).at_ hlt
                  have hss := HZ.out.d s (List.mem_of_getElem? hs)
                  obtain ⟨c0, c1, c2, c3, c4, c5, c6, c7⟩ := HBX.out.aft HF1.out
                  dsimp only at c0 c1 c2 c3 c4 c5 c6 c7
                  (try dsimp only at hA)
                  rw [hA] at c1
                  have hki : (k : Int) < (20 : Int) := by omega
                  cases ht : tokB s
                  · have HV := Lib.hid (okR_ds (x := (⟨20, da, 20, dc, ds, pa, 3, pc, ps, sf, jo, sub, le, om⟩ : Nm)) (all_cons_of hs ht))
                    have HC := Lib.hid (show Calls Tryd.prog 32 #[.string s] _ (BoolPost _ false) from ht ▸ token_ref s _ (tabs_aft HT.out HF1.out) hss)
                    clear hs ht hA
                    go_wp2_with fail
                    refine HC.out.mono ?_
                    rintro e v1 ⟨rfl, N1⟩
                    go_wp2
                    go_ret
                    exact ⟨by rw [HV.out]; rfl, HAL.out.trans (HF1.out.trans N1)⟩
                  · have HN := Lib.hid (all_take hs ht HL1.out)
                    have HC := Lib.hid (show Calls Tryd.prog 32 #[.string s] _ (BoolPost _ true) from ht ▸ token_ref s _ (tabs_aft HT.out HF1.out) hss)
                    clear hs ht hA
                    go_wp2_with fail
                    refine HC.out.mono ?_
                    rintro e v1 ⟨rfl, N1⟩
                    go_wp2
                    go_roundw
                    case rel => (repeat apply Exists.intro); exact ⟨⟨k + 1, by omega, by go_num, HN.out, HF1.out.trans N1⟩, rfl⟩
                    case measure => simp [intOf]; omega
                · obtain rfl : k = 20 := by omega
                  have HE1 := Lib.hid (show ds.all tokB = true by have h := HL1.out; rwa [List.take_of_length_le (by rw [HLD.out]; exact Nat.le_refl _)] at h)
                  obtain ⟨c0, c1, c2, c3, c4, c5, c6, c7⟩ := HBX.out.aft HF1.out
                  dsimp only at c0 c1 c2 c3 c4 c5 c6 c7
                  go_wp2
                  clear c0 c1 c2 c3 c4 c5 c6 c7
                  go_loopw [4] (fun i wr => ∃ k : Nat, k ≤ 3 ∧ i = .int .i64 (k : Nat) ∧ (ps.take k).all tokB = true ∧ Aft (w.alloc (.cells #[.int .i64 20, .slice da 20 dc, .slice pa 3 pc, .bool sf, .string jo, .int .i64 sub, .string le, .bool om] 24)) wr) (fun i _ => 3 - (intOf i).toNat)
                  case atStart => exact ⟨0, Nat.zero_le _, rfl, rfl, HF1.out⟩
                  case round =>
                    obtain ⟨k, hk, rfl, hl, haf⟩ := hrel
                    have HL2 := Lib.hid hl
                    have HF2 := Lib.hid haf
                    clear hl haf
                    by_cases hlt : k < 3
                    · obtain ⟨b, off, s, hA, hs, g1⟩ := (HW.out.rp.aft HF2.out).at_ hlt
                      have hss := HZ.out.p s (List.mem_of_getElem? hs)
                      obtain ⟨c0, c1, c2, c3, c4, c5, c6, c7⟩ := HBX.out.aft HF2.out
                      dsimp only at c0 c1 c2 c3 c4 c5 c6 c7
                      (try dsimp only at hA)
                      rw [hA] at c2
                      have hki : (k : Int) < (3 : Int) := by omega
                      cases ht : tokB s
                      · have HV := Lib.hid (okR_ps (x := (⟨20, da, 20, dc, ds, pa, 3, pc, ps, sf, jo, sub, le, om⟩ : Nm)) (all_cons_of hs ht))
                        have HC := Lib.hid (show Calls Tryd.prog 32 #[.string s] _ (BoolPost _ false) from ht ▸ token_ref s _ (tabs_aft HT.out HF2.out) hss)
                        clear hs ht hA
                        go_wp2_with fail
                        refine HC.out.mono ?_
                        rintro e v1 ⟨rfl, N1⟩
                        go_wp2
                        go_ret
                        exact ⟨by rw [HV.out]; rfl, HAL.out.trans (HF2.out.trans N1)⟩
                      · have HN := Lib.hid (all_take hs ht HL2.out)
                        have HC := Lib.hid (show Calls Tryd.prog 32 #[.string s] _ (BoolPost _ true) from ht ▸ token_ref s _ (tabs_aft HT.out HF2.out) hss)
                        clear hs ht hA
                        go_wp2_with fail
                        refine HC.out.mono ?_
                        rintro e v1 ⟨rfl, N1⟩
                        go_wp2
                        go_roundw
                        case rel => (repeat apply Exists.intro); exact ⟨⟨k + 1, by omega, by go_num, HN.out, HF2.out.trans N1⟩, rfl⟩
                        case measure => simp [intOf]; omega
                    · obtain rfl : k = 3 := by omega
                      have HE2 := Lib.hid (show ps.all tokB = true by have h := HL2.out; rwa [List.take_of_length_le (by rw [HLP.out]; exact Nat.le_refl _)] at h)
                      obtain ⟨c0, c1, c2, c3, c4, c5, c6, c7⟩ := HBX.out.aft HF2.out
                      dsimp only at c0 c1 c2 c3 c4 c5 c6 c7
                      have HV := Lib.hid (okR_yes (x := (⟨20, da, 20, dc, ds, pa, 3, pc, ps, sf, jo, sub, le, om⟩ : Nm)) HOK.out HE1.out HE2.out)
                      dsimp only at HV
                      by_cases a : 0 ≤ sub
                      · rw [decide_eq_true a] at HV
                        by_cases b : sub ≤ 20 / 2 - 1
                        · rw [decide_eq_true b] at HV
                          by_cases c : sub = 0
                          · rw [decide_eq_true c] at HV
                            go_wp2
                            go_ret
                            exact ⟨by rw [HV.out]; rfl, HAL.out.trans HF2.out⟩
                          · rw [decide_eq_false c] at HV
                            have cb : (sub == 0) = false := by simp [c]
                            have cc : (sub != 0) = true := by simp [c]
                            by_cases d : le.size = 0
                            · rw [decide_eq_true d] at HV hel
                              clear d
                              go_wp2
                              go_ret
                              exact ⟨by rw [HV.out]; rfl, HAL.out.trans HF2.out⟩
                            · rw [decide_eq_false d] at HV hel
                              clear d
                              go_wp2
                              go_ret
                              exact ⟨by rw [HV.out]; rfl, HAL.out.trans HF2.out⟩
                        · rw [decide_eq_false b] at HV
                          go_wp2
                          go_ret
                          exact ⟨by rw [HV.out]; rfl, HAL.out.trans HF2.out⟩
                      · rw [decide_eq_false a] at HV
                        go_wp2
                        go_ret
                        exact ⟨by rw [HV.out]; rfl, HAL.out.trans HF2.out⟩
        · have hpi : ¬ (pn : Int) = 3 := by omega
          have HVX : okR (⟨20, da, 20, dc, ds, pa, pn, pc, ps, sf, jo, sub, le, om⟩ : Nm) = false := by unfold okR; rw [decide_eq_false (show ¬ pn = 3 from hp)]; simp
          have HV := Lib.hid (okR_no (x := (⟨20, da, 20, dc, ds, pa, pn, pc, ps, sf, jo, sub, le, om⟩ : Nm)) HVX)
          have AL : Aft w (w.alloc (.cells #[.int .i64 20, .slice da 20 dc, .slice pa pn pc, .bool sf, .string jo, .int .i64 sub, .string le, .bool om] 24)) := (Aft.refl w).alloc _
          have HT := Lib.hid (tabs_aft hT AL)
          have HW := Lib.hid (hw.aft AL)
          have HZ := Lib.hid hz
          have HBX := Lib.hid (show Bx (w.alloc (.cells #[.int .i64 20, .slice da 20 dc, .slice pa pn pc, .bool sf, .string jo, .int .i64 sub, .string le, .bool om] 24)) w.heap.size (⟨20, da, 20, dc, ds, pa, pn, pc, ps, sf, jo, sub, le, om⟩ : Nm) from Bx.new w (⟨20, da, 20, dc, ds, pa, pn, pc, ps, sf, jo, sub, le, om⟩ : Nm) 24)
          have HAL := Lib.hid AL
          have hdle : 20 ≤ dc := hw.rd.le
          have hdcm : dc ≤ 9223372036854775807 := hw.rd.cmax
          have hple : pn ≤ pc := hw.rp.le
          have hpcm : pc ≤ 9223372036854775807 := hw.rp.cmax
          have HLD := Lib.hid (show ds.length = 20 from hw.rd.len)
          have HLP := Lib.hid (show ps.length = pn from hw.rp.len)
          have hej := empty_iff jo
          have hel := empty_iff le
          clear hT hw hz AL
          obtain ⟨c0, c1, c2, c3, c4, c5, c6, c7⟩ := HBX.out
          dsimp only at c0 c1 c2 c3 c4 c5 c6 c7
          go_enter Tryd.func15, Tryd.ntmps15
          go_wp2
          go_ret
          exact ⟨by rw [HV.out]; rfl, HAL.out⟩
      · have hdi : ¬ (dn : Int) = 20 := by omega
        have HVX : okR (⟨20, da, dn, dc, ds, pa, pn, pc, ps, sf, jo, sub, le, om⟩ : Nm) = false := by unfold okR; rw [decide_eq_false (show ¬ (dn : Int) = 20 from hdi)]; simp
        have HV := Lib.hid (okR_no (x := (⟨20, da, dn, dc, ds, pa, pn, pc, ps, sf, jo, sub, le, om⟩ : Nm)) HVX)
        have AL : Aft w (w.alloc (.cells #[.int .i64 20, .slice da dn dc, .slice pa pn pc, .bool sf, .string jo, .int .i64 sub, .string le, .bool om] 24)) := (Aft.refl w).alloc _
        have HT := Lib.hid (tabs_aft hT AL)
        have HW := Lib.hid (hw.aft AL)
        have HZ := Lib.hid hz
        have HBX := Lib.hid (show Bx (w.alloc (.cells #[.int .i64 20, .slice da dn dc, .slice pa pn pc, .bool sf, .string jo, .int .i64 sub, .string le, .bool om] 24)) w.heap.size (⟨20, da, dn, dc, ds, pa, pn, pc, ps, sf, jo, sub, le, om⟩ : Nm) from Bx.new w (⟨20, da, dn, dc, ds, pa, pn, pc, ps, sf, jo, sub, le, om⟩ : Nm) 24)
        have HAL := Lib.hid AL
        have hdle : dn ≤ dc := hw.rd.le
        have hdcm : dc ≤ 9223372036854775807 := hw.rd.cmax
        have hple : pn ≤ pc := hw.rp.le
        have hpcm : pc ≤ 9223372036854775807 := hw.rp.cmax
        have HLD := Lib.hid (show ds.length = dn from hw.rd.len)
        have HLP := Lib.hid (show ps.length = pn from hw.rp.len)
        have hej := empty_iff jo
        have hel := empty_iff le
        clear hT hw hz AL
        obtain ⟨c0, c1, c2, c3, c4, c5, c6, c7⟩ := HBX.out
        dsimp only at c0 c1 c2 c3 c4 c5 c6 c7
        go_enter Tryd.func15, Tryd.ntmps15
        go_wp2
        go_ret
        exact ⟨by rw [HV.out]; rfl, HAL.out⟩
  · have hbi : ¬ B = 10 := fun h => hb1 (.inl h)
    have hbj : ¬ B = 20 := fun h => hb1 (.inr h)
    have HVX : okR (⟨B, da, dn, dc, ds, pa, pn, pc, ps, sf, jo, sub, le, om⟩ : Nm) = false := by unfold okR; rw [decide_eq_false (show ¬ B = 10 from hbi), decide_eq_false (show ¬ B = 20 from hbj)]; rfl
    clear hb1
    have HV := Lib.hid (okR_no (x := (⟨B, da, dn, dc, ds, pa, pn, pc, ps, sf, jo, sub, le, om⟩ : Nm)) HVX)
    have AL : Aft w (w.alloc (.cells #[.int .i64 B, .slice da dn dc, .slice pa pn pc, .bool sf, .string jo, .int .i64 sub, .string le, .bool om] 24)) := (Aft.refl w).alloc _
    have HT := Lib.hid (tabs_aft hT AL)
    have HW := Lib.hid (hw.aft AL)
    have HZ := Lib.hid hz
    have HBX := Lib.hid (show Bx (w.alloc (.cells #[.int .i64 B, .slice da dn dc, .slice pa pn pc, .bool sf, .string jo, .int .i64 sub, .string le, .bool om] 24)) w.heap.size (⟨B, da, dn, dc, ds, pa, pn, pc, ps, sf, jo, sub, le, om⟩ : Nm) from Bx.new w (⟨B, da, dn, dc, ds, pa, pn, pc, ps, sf, jo, sub, le, om⟩ : Nm) 24)
    have HAL := Lib.hid AL
    have hdle : dn ≤ dc := hw.rd.le
    have hdcm : dc ≤ 9223372036854775807 := hw.rd.cmax
    have hple : pn ≤ pc := hw.rp.le
    have hpcm : pc ≤ 9223372036854775807 := hw.rp.cmax
    have HLD := Lib.hid (show ds.length = dn from hw.rd.len)
    have HLP := Lib.hid (show ps.length = pn from hw.rp.len)
    have hej := empty_iff jo
    have hel := empty_iff le
    clear hT hw hz AL
    obtain ⟨c0, c1, c2, c3, c4, c5, c6, c7⟩ := HBX.out
    dsimp only at c0 c1 c2 c3 c4 c5 c6 c7
    go_enter Tryd.func15, Tryd.ntmps15
    go_wp2
    go_ret
    exact ⟨by rw [HV.out]; rfl, HAL.out⟩

end Go.Proofs.YtdehghmpfkhljaaDoor
