/-
  isToken, Valid and Greatest. Conditions: the system lies where it says, its strings are no longer than a string can be; the tables of unicode/utf8 lie as their texts say.
-/
import Derived.Test.YtdehghmpfkhljaaDoorNumCol
import Derived.Test.YtdehghmpfkhljaaDoorShelf
namespace Go.Proofs.YtdehghmpfkhljaaDoor
open Go.RowKit Go.Shelf
open NumPlain

/-- The tables of unicode/utf8 lie as their texts say. -/
abbrev Tabs (w : World) : Prop := Lib.Utf8Tabs 0 1 w
theorem tabs_aft {w w' : World} (h : Tabs w) (a : Aft w w') : Tabs w' := ⟨fun c hc => a.cell (h.1 c hc), fun i hi => ⟨a.cell (h.2 i hi).1, a.cell (h.2 i hi).2⟩⟩
theorem enterBlank (args : Array Value) (w : World) : (callFunc 47 args).run Tryd.prog w = .ok (.enter 47 args) w := by go_simp
theorem blank_any (r : Nat) (w : World) : Calls Tryd.prog 47 #[.int .i32 (r : Int)] w (fun e w' => e = .returned (.bool (decide (r ≤ 32))) ∧ w = w') := by
  by_cases h : r ≤ 32
  · have h' : (r : Int) ≤ 32 := by omega
    go_enter Tryd.func47, Tryd.ntmps47
    go_wp2
    go_ret
    exact ⟨by simp [h], rfl⟩
  · have h' : ¬ (r : Int) ≤ 32 := by omega
    go_enter Tryd.func47, Tryd.ntmps47
    go_wp2
    go_ret
    exact ⟨by simp, rfl⟩
theorem blank_pred (w : World) : Go.Proofs.PredAtRunes Tryd.prog 47 #[] (fun r => decide (r ≤ 32)) w := fun W x _ _ => (blank_any x W).mono fun _ _ h => ⟨h.1, 0, h.2.symm⟩

set_option maxHeartbeats 800000 in
theorem token_any (s : BA) (w : World) (hT : Tabs w) (hs : s.size ≤ 9223372036854775807) :
    Calls Tryd.prog 34 #[.string s] w (BoolPost w (tokB s)) := by
  have hcf := enterBlank
  have hem := empty_iff s
  have H1 := Lib.hid (Tryd.utf8_ValidString s w hs hT)
  have H2 := Lib.hid (fun w0 => Tryd.strings_ContainsFunc_runes 47 #[] enterBlank (fun r => decide (r ≤ 32)) s w0 (blank_pred w0))
  by_cases he : s.size = 0
  · rw [decide_eq_true he] at hem
    have HV := Lib.hid (show tokB s = false by unfold tokB neB; rw [decide_eq_true he]; rfl)
    clear he hT
    go_enter Tryd.func34, Tryd.ntmps34
    go_wp2
    go_ret
    exact ⟨by rw [HV.out]; rfl, Aft.refl _⟩
  · rw [decide_eq_false he] at hem
    have HV := Lib.hid (show tokB s = (Lib.validD s.data.toList && !decide (0 ≤ Lib.idxFunc (fun r => decide (r ≤ 32)) true s)) by unfold tokB neB; rw [decide_eq_false he]; rfl)
    clear he hT
    generalize decide (0 ≤ Lib.idxFunc (fun r => decide (r ≤ 32)) true s) = Q at *
    cases hv : Lib.validD s.data.toList
    · rw [hv] at H1 HV
      clear hv
      go_enter Tryd.func34, Tryd.ntmps34
      go_wp2_with fail
      refine H1.out.mono ?_
      rintro e w1 ⟨rfl, N1⟩
      clear H1
      go_wp2
      go_ret
      exact ⟨by rw [HV.out]; rfl, N1⟩
    · rw [hv] at H1 HV
      clear hv
      go_enter Tryd.func34, Tryd.ntmps34
      go_wp2_with fail
      refine H1.out.mono ?_
      rintro e w1 ⟨rfl, N1⟩
      clear H1
      go_wp2_with fail
      refine (H2.out w1).mono ?_
      rintro e w2 ⟨rfl, N2⟩
      clear H2
      go_wp2
      go_ret
      exact ⟨by rw [HV.out]; rfl, Aft.trans N1 N2⟩

theorem wrong_any (s : BA) (w : World) (hT : Tabs w) (hs : s.size ≤ 9223372036854775807) :
    Calls Tryd.prog 33 #[.string s] w (BoolPost w (!tokB s)) := by
  have H1 := Lib.hid (token_any s w hT hs)
  generalize tokB s = Q at *
  go_enter Tryd.func33, Tryd.ntmps33
  go_wp2_with fail
  refine H1.out.mono ?_
  rintro e w1 ⟨rfl, N1⟩
  clear H1
  go_wp2
  go_ret
  exact ⟨rfl, N1⟩
theorem enterWrong (args : Array Value) (w : World) : (callFunc 33 args).run Tryd.prog w = .ok (.enter 33 args) w := by go_simp

set_option maxRecDepth 100000 in
set_option maxHeartbeats 1600000 in
theorem indexWrong_any (A : Option Addr) (n c : Nat) (l : List BA) (w : World) (hT : Tabs w) (ha : Rw sV w A n c l) (hs : ∀ s ∈ l, s.size ≤ 9223372036854775807) :
    Calls Tryd.prog 49 #[.slice A n c, .func (.func 33) #[] #[]] w (fun e w' => ∃ z : Int, e = .returned (.int .i64 z) ∧ decide (0 ≤ z) = l.any (fun s => !tokB s) ∧ Aft w w') := by
  have hcf := enterWrong
  have hac := ha.le
  have hcm := ha.cmax
  have hla := Lib.hid ha.len
  have HT := Lib.hid hT
  clear hT
  go_enter Tryd.func49, Tryd.ntmps49
  go_wp2
  go_loopw [8] (fun i wr => ∃ j : Nat, j ≤ n ∧ i = .int .i64 (j : Nat) ∧ l.any (fun s => !tokB s) = (l.drop j).any (fun s => !tokB s) ∧ Aft w wr) (fun i _ => n - (intOf i).toNat)
  case atStart => exact ⟨0, Nat.zero_le _, rfl, rfl, Aft.refl _⟩
  case round =>
    obtain ⟨j, hj, rfl, he, haf⟩ := hrel
    have HE := Lib.hid he
    clear he
    by_cases hlt : j < n
    · obtain ⟨b, off, s, rfl, hx, g1⟩ := ha.at_ hlt
      have c1 := haf.cell g1
      dsimp only [sV] at c1
      have hcall := wrong_any s wr (tabs_aft HT.out haf) (hs s (List.mem_of_getElem? hx))
      have HS := Lib.hid (drop_of_get hx)
      have hji : (j : Int) < (n : Int) := by omega
      clear hx g1
      generalize hh : (!tokB s) = q at hcall
      have HQ := Lib.hid hh
      have HC := Lib.hid hcall
      clear hh hcall
      cases q
      · go_wp2_with fail
        refine HC.out.mono ?_
        rintro e w1 ⟨rfl, N1⟩
        go_wp2
        go_roundw
        case rel => exact ⟨j + 1, by omega, by go_num, by rw [HE.out, HS.out, List.any_cons, HQ.out]; rfl, haf.trans N1⟩
        case measure => simp [intOf]; omega
      · go_wp2_with fail
        refine HC.out.mono ?_
        rintro e w1 ⟨rfl, N1⟩
        go_wp2
        go_ret
        exact ⟨(j : Int), rfl, by rw [HE.out, HS.out, List.any_cons, HQ.out]; simp, haf.trans N1⟩
    · obtain rfl : j = n := by omega
      go_wp2
      go_ret
      exact ⟨-1, rfl, by rw [HE.out, List.drop_of_length_le (by rw [hla.out]; exact Nat.le_refl _)]; rfl, haf⟩
theorem containsWrong_any (A : Option Addr) (n c : Nat) (l : List BA) (w : World) (hT : Tabs w) (ha : Rw sV w A n c l) (hs : ∀ s ∈ l, s.size ≤ 9223372036854775807) :
    Calls Tryd.prog 35 #[.slice A n c, .func (.func 33) #[] #[]] w (BoolPost w (l.any (fun s => !tokB s))) := by
  have H1 := Lib.hid (indexWrong_any A n c l w hT ha hs)
  clear ha hT
  go_enter Tryd.func35, Tryd.ntmps35
  go_wp2_with fail
  refine H1.out.mono ?_
  rintro e w1 ⟨z, rfl, hz, N1⟩
  clear H1
  by_cases h0 : 0 ≤ z
  · rw [decide_eq_true h0] at hz
    have HZ := Lib.hid hz
    clear hz
    go_wp2
    go_ret
    exact ⟨by rw [← HZ.out]; rfl, N1⟩
  · rw [decide_eq_false h0] at hz
    have HZ := Lib.hid hz
    clear hz
    go_wp2
    go_ret
    exact ⟨by rw [← HZ.out]; simp; omega, N1⟩

/-- The strings of a system are no longer than a string can be. -/
structure Sz (x : Nm) : Prop where
  d : ∀ s ∈ x.ds, s.size ≤ 9223372036854775807
  p : ∀ s ∈ x.ps, s.size ≤ 9223372036854775807
  j : x.jo.size ≤ 9223372036854775807
  l : x.le.size ≤ 9223372036854775807

theorem v_base {x : Nm} (h : x.base ≠ 10) (h2 : x.base ≠ 20) : validB x = false := by unfold validB; rw [decide_eq_false h, decide_eq_false h2]; rfl
theorem v_dn {x : Nm} (h : ¬ (x.dn : Int) = x.base) : validB x = false := by unfold validB; rw [decide_eq_false h]; simp
theorem v_pn {x : Nm} (h : ¬ x.pn = 3) : validB x = false := by unfold validB; rw [decide_eq_false h]; simp
theorem v_s0 {x : Nm} (h : x.sub < 0) : validB x = false := by unfold validB; rw [decide_eq_true h]; simp
theorem v_s1 {x : Nm} (h : x.base / 2 ≤ x.sub) : validB x = false := by unfold validB; rw [decide_eq_true h]; simp
theorem v_le {x : Nm} (h : 0 < x.sub) (h2 : x.le.size = 0) : validB x = false := by unfold validB; rw [decide_eq_true h, decide_eq_true h2]; simp
theorem all_any (l : List BA) : l.all tokB = !(l.any (fun s => !tokB s)) := by induction l with
  | nil => rfl
  | cons s l ih => rw [List.all_cons, List.any_cons, ih]; cases tokB s <;> simp
theorem v_rest {x : Nm} (hb : x.base = 10 ∨ x.base = 20) (hd : (x.dn : Int) = x.base) (hp : x.pn = 3) (h0 : ¬ x.sub < 0) (h1 : ¬ x.base / 2 ≤ x.sub) (hl : ¬ (0 < x.sub) ∨ ¬ x.le.size = 0) :
    validB x = (!(x.ds.any (fun s => !tokB s)) && !(x.ps.any (fun s => !tokB s)) && (decide (x.jo.size = 0) || tokB x.jo) && (decide (x.le.size = 0) || tokB x.le)) := by
  have e1 : (decide (x.base = 10) || decide (x.base = 20)) = true := by rcases hb with h | h <;> rw [h] <;> rfl
  have e2 : (decide (0 < x.sub) && decide (x.le.size = 0)) = false := by
    rcases hl with h | h
    · rw [decide_eq_false h]; rfl
    · rw [decide_eq_false h, Bool.and_false]
  unfold validB
  rw [e1, e2, decide_eq_true hd, decide_eq_true hp, decide_eq_false h0, decide_eq_false h1, all_any, all_any]
  rfl

set_option maxRecDepth 100000 in
set_option maxHeartbeats 6400000 in
theorem valid_any (x : Nm) (w : World) (hT : Tabs w) (hw : Nw w x) (hz : Sz x) : Calls Tryd.prog 16 #[nV x] w (BoolPost w (validB x)) := by
  obtain ⟨B, da, dn, dc, ds, pa, pn, pc, ps, sf, jo, sub, le, om⟩ := x
  have AL : Aft w (w.alloc (.cells (nC ⟨B, da, dn, dc, ds, pa, pn, pc, ps, sf, jo, sub, le, om⟩) 24)) := (Aft.refl w).alloc _
  obtain ⟨c0, c1, c2, c3, c4, c5, c6, c7⟩ := Bx.new w ⟨B, da, dn, dc, ds, pa, pn, pc, ps, sf, jo, sub, le, om⟩ 24
  dsimp only [nC] at AL c0 c1 c2 c3 c4 c5 c6 c7
  have hcf := enterWrong
  have hdm : dn ≤ 9223372036854775807 := by have h1 : dn ≤ dc := hw.rd.le; have h2 : dc ≤ 9223372036854775807 := hw.rd.cmax; omega
  have hpm : pn ≤ 9223372036854775807 := by have h1 : pn ≤ pc := hw.rp.le; have h2 : pc ≤ 9223372036854775807 := hw.rp.cmax; omega
  have hej := empty_iff jo
  have hel := empty_iff le
  by_cases hB : B = 10 ∨ B = 20
  · by_cases hd : (dn : Int) = B
    · by_cases hp : pn = 3
      · by_cases h0 : sub < 0
        · have HV := Lib.hid (v_s0 (x := ⟨B, da, dn, dc, ds, pa, pn, pc, ps, sf, jo, sub, le, om⟩) h0)
          subst hp
          rcases hB with rfl | rfl
          all_goals
            clear hT hw hz
            go_enter Tryd.func16, Tryd.ntmps16
            go_wp2
            go_ret
            exact ⟨by rw [HV.out]; rfl, AL⟩
        · by_cases h1 : B / 2 ≤ sub
          · have HV := Lib.hid (v_s1 (x := ⟨B, da, dn, dc, ds, pa, pn, pc, ps, sf, jo, sub, le, om⟩) h1)
            subst hp
            rcases hB with rfl | rfl
            all_goals
              clear hT hw hz
              go_enter Tryd.func16, Tryd.ntmps16
              go_wp2
              go_ret
              exact ⟨by rw [HV.out]; rfl, AL⟩
          · by_cases hl : 0 < sub ∧ le.size = 0
            · have HV := Lib.hid (v_le (x := ⟨B, da, dn, dc, ds, pa, pn, pc, ps, sf, jo, sub, le, om⟩) hl.1 hl.2)
              obtain ⟨hl1, hl2⟩ := hl
              rw [decide_eq_true hl2] at hel
              subst hp
              rcases hB with rfl | rfl
              all_goals
                clear hT hw hz
                go_enter Tryd.func16, Tryd.ntmps16
                go_wp2
                go_ret
                exact ⟨by rw [HV.out]; rfl, AL⟩
            · have hl' : ¬ (0 < sub) ∨ ¬ le.size = 0 := by
                by_cases h : 0 < sub
                · right; exact fun h2 => hl ⟨h, h2⟩
                · left; exact h
              have HV := Lib.hid (v_rest (x := ⟨B, da, dn, dc, ds, pa, pn, pc, ps, sf, jo, sub, le, om⟩) hB hd hp h0 h1 hl')
              have HD := Lib.hid (fun w0 (a : Aft w w0) => containsWrong_any da dn dc ds w0 (tabs_aft hT a) (hw.rd.aft a) hz.d)
              have HP := Lib.hid (fun w0 (a : Aft w w0) => containsWrong_any pa pn pc ps w0 (tabs_aft hT a) (hw.rp.aft a) hz.p)
              have HJ := Lib.hid (fun w0 (a : Aft w w0) => token_any jo w0 (tabs_aft hT a) hz.j)
              have HL := Lib.hid (fun w0 (a : Aft w w0) => token_any le w0 (tabs_aft hT a) hz.l)
              have HLL : (¬ (0 < sub)) ∨ (0 < sub ∧ ¬ le.size = 0) := by
                by_cases h : 0 < sub
                · right; exact ⟨h, fun h2 => hl ⟨h, h2⟩⟩
                · left; exact h
              subst hp
              clear hT hw hz hl hl'
              generalize ds.any (fun s => !tokB s) = q1 at *
              generalize ps.any (fun s => !tokB s) = q2 at *
              generalize tokB jo = q3 at *
              generalize tokB le = q4 at *
              rcases hB with rfl | rfl
              all_goals
                rcases HLL with hls | ⟨hls, hln⟩
                all_goals
                  cases q1
                  · cases q2
                    · by_cases hj0 : jo.size = 0
                      · rw [decide_eq_true hj0] at hej HV
                        by_cases hl0 : le.size = 0
                        · first
                          | exact absurd hl0 hln
                          | (rw [decide_eq_true hl0] at hel HV
                             go_enter Tryd.func16, Tryd.ntmps16
                             go_wp2_with fail
                             refine (HD.out _ AL).mono ?_
                             rintro e w1 ⟨rfl, N1⟩
                             have d1_1 := N1.cell c1
                             have d2_1 := N1.cell c2
                             have d4_1 := N1.cell c4
                             have d6_1 := N1.cell c6
                             have A1 := AL.trans N1
                             go_wp2_with fail
                             refine (HP.out _ A1).mono ?_
                             rintro e w2 ⟨rfl, N2⟩
                             have d1_2 := N2.cell d1_1
                             have d2_2 := N2.cell d2_1
                             have d4_2 := N2.cell d4_1
                             have d6_2 := N2.cell d6_1
                             have A2 := A1.trans N2
                             go_wp2
                             go_ret
                             exact ⟨by rw [HV.out]; rfl, A2⟩)
                        · rw [decide_eq_false hl0] at hel HV
                          cases q4
                          all_goals
                            go_enter Tryd.func16, Tryd.ntmps16
                            go_wp2_with fail
                            refine (HD.out _ AL).mono ?_
                            rintro e w1 ⟨rfl, N1⟩
                            have d1_1 := N1.cell c1
                            have d2_1 := N1.cell c2
                            have d4_1 := N1.cell c4
                            have d6_1 := N1.cell c6
                            have A1 := AL.trans N1
                            go_wp2_with fail
                            refine (HP.out _ A1).mono ?_
                            rintro e w2 ⟨rfl, N2⟩
                            have d1_2 := N2.cell d1_1
                            have d2_2 := N2.cell d2_1
                            have d4_2 := N2.cell d4_1
                            have d6_2 := N2.cell d6_1
                            have A2 := A1.trans N2
                            go_wp2_with fail
                            refine (HL.out _ A2).mono ?_
                            rintro e w3 ⟨rfl, N3⟩
                            have d1_3 := N3.cell d1_2
                            have d2_3 := N3.cell d2_2
                            have d4_3 := N3.cell d4_2
                            have d6_3 := N3.cell d6_2
                            have A3 := A2.trans N3
                            go_wp2
                            go_ret
                            exact ⟨by rw [HV.out]; rfl, A3⟩
                      · rw [decide_eq_false hj0] at hej HV
                        cases q3
                        · go_enter Tryd.func16, Tryd.ntmps16
                          go_wp2_with fail
                          refine (HD.out _ AL).mono ?_
                          rintro e w1 ⟨rfl, N1⟩
                          have d1_1 := N1.cell c1
                          have d2_1 := N1.cell c2
                          have d4_1 := N1.cell c4
                          have d6_1 := N1.cell c6
                          have A1 := AL.trans N1
                          go_wp2_with fail
                          refine (HP.out _ A1).mono ?_
                          rintro e w2 ⟨rfl, N2⟩
                          have d1_2 := N2.cell d1_1
                          have d2_2 := N2.cell d2_1
                          have d4_2 := N2.cell d4_1
                          have d6_2 := N2.cell d6_1
                          have A2 := A1.trans N2
                          go_wp2_with fail
                          refine (HJ.out _ A2).mono ?_
                          rintro e w3 ⟨rfl, N3⟩
                          have d1_3 := N3.cell d1_2
                          have d2_3 := N3.cell d2_2
                          have d4_3 := N3.cell d4_2
                          have d6_3 := N3.cell d6_2
                          have A3 := A2.trans N3
                          go_wp2
                          go_ret
                          exact ⟨by rw [HV.out]; rfl, A3⟩
                        · by_cases hl0 : le.size = 0
                          · first
                            | exact absurd hl0 hln
                            | (rw [decide_eq_true hl0] at hel HV
                               go_enter Tryd.func16, Tryd.ntmps16
                               go_wp2_with fail
                               refine (HD.out _ AL).mono ?_
                               rintro e w1 ⟨rfl, N1⟩
                               have d1_1 := N1.cell c1
                               have d2_1 := N1.cell c2
                               have d4_1 := N1.cell c4
                               have d6_1 := N1.cell c6
                               have A1 := AL.trans N1
                               go_wp2_with fail
                               refine (HP.out _ A1).mono ?_
                               rintro e w2 ⟨rfl, N2⟩
                               have d1_2 := N2.cell d1_1
                               have d2_2 := N2.cell d2_1
                               have d4_2 := N2.cell d4_1
                               have d6_2 := N2.cell d6_1
                               have A2 := A1.trans N2
                               go_wp2_with fail
                               refine (HJ.out _ A2).mono ?_
                               rintro e w3 ⟨rfl, N3⟩
                               have d1_3 := N3.cell d1_2
                               have d2_3 := N3.cell d2_2
                               have d4_3 := N3.cell d4_2
                               have d6_3 := N3.cell d6_2
                               have A3 := A2.trans N3
                               go_wp2
                               go_ret
                               exact ⟨by rw [HV.out]; rfl, A3⟩)
                          · rw [decide_eq_false hl0] at hel HV
                            cases q4
                            all_goals
                              go_enter Tryd.func16, Tryd.ntmps16
                              go_wp2_with fail
                              refine (HD.out _ AL).mono ?_
                              rintro e w1 ⟨rfl, N1⟩
                              have d1_1 := N1.cell c1
                              have d2_1 := N1.cell c2
                              have d4_1 := N1.cell c4
                              have d6_1 := N1.cell c6
                              have A1 := AL.trans N1
                              go_wp2_with fail
                              refine (HP.out _ A1).mono ?_
                              rintro e w2 ⟨rfl, N2⟩
                              have d1_2 := N2.cell d1_1
                              have d2_2 := N2.cell d2_1
                              have d4_2 := N2.cell d4_1
                              have d6_2 := N2.cell d6_1
                              have A2 := A1.trans N2
                              go_wp2_with fail
                              refine (HJ.out _ A2).mono ?_
                              rintro e w3 ⟨rfl, N3⟩
                              have d1_3 := N3.cell d1_2
                              have d2_3 := N3.cell d2_2
                              have d4_3 := N3.cell d4_2
                              have d6_3 := N3.cell d6_2
                              have A3 := A2.trans N3
                              go_wp2_with fail
                              refine (HL.out _ A3).mono ?_
                              rintro e w4 ⟨rfl, N4⟩
                              have d1_4 := N4.cell d1_3
                              have d2_4 := N4.cell d2_3
                              have d4_4 := N4.cell d4_3
                              have d6_4 := N4.cell d6_3
                              have A4 := A3.trans N4
                              go_wp2
                              go_ret
                              exact ⟨by rw [HV.out]; rfl, A4⟩
                    · go_enter Tryd.func16, Tryd.ntmps16
                      go_wp2_with fail
                      refine (HD.out _ AL).mono ?_
                      rintro e w1 ⟨rfl, N1⟩
                      have d1_1 := N1.cell c1
                      have d2_1 := N1.cell c2
                      have d4_1 := N1.cell c4
                      have d6_1 := N1.cell c6
                      have A1 := AL.trans N1
                      go_wp2_with fail
                      refine (HP.out _ A1).mono ?_
                      rintro e w2 ⟨rfl, N2⟩
                      have d1_2 := N2.cell d1_1
                      have d2_2 := N2.cell d2_1
                      have d4_2 := N2.cell d4_1
                      have d6_2 := N2.cell d6_1
                      have A2 := A1.trans N2
                      go_wp2
                      go_ret
                      exact ⟨by rw [HV.out]; rfl, A2⟩
                  · go_enter Tryd.func16, Tryd.ntmps16
                    go_wp2_with fail
                    refine (HD.out _ AL).mono ?_
                    rintro e w1 ⟨rfl, N1⟩
                    have d1_1 := N1.cell c1
                    have d2_1 := N1.cell c2
                    have d4_1 := N1.cell c4
                    have d6_1 := N1.cell c6
                    have A1 := AL.trans N1
                    go_wp2
                    go_ret
                    exact ⟨by rw [HV.out]; rfl, A1⟩
      · have HV := Lib.hid (v_pn (x := ⟨B, da, dn, dc, ds, pa, pn, pc, ps, sf, jo, sub, le, om⟩) hp)
        have hpi : ¬ (pn : Int) = 3 := by omega
        have hpb : ((pn : Int) != 3) = true := by simp; omega
        rcases hB with rfl | rfl
        all_goals
          clear hT hw hz
          go_enter Tryd.func16, Tryd.ntmps16
          go_wp2
          go_ret
          exact ⟨by rw [HV.out]; rfl, AL⟩
    · have HV := Lib.hid (v_dn (x := ⟨B, da, dn, dc, ds, pa, pn, pc, ps, sf, jo, sub, le, om⟩) hd)
      rcases hB with rfl | rfl
      all_goals
        clear hT hw hz
        have hdb := show ((dn : Int) != _) = true from bne_iff_ne.2 hd
        go_enter Tryd.func16, Tryd.ntmps16
        go_wp2
        go_ret
        exact ⟨by rw [HV.out]; rfl, AL⟩
  · have h10 : B ≠ 10 := fun h => hB (.inl h)
    have h20 : B ≠ 20 := fun h => hB (.inr h)
    have HV := Lib.hid (v_base (x := ⟨B, da, dn, dc, ds, pa, pn, pc, ps, sf, jo, sub, le, om⟩) h10 h20)
    have h10b : (B != 10) = true := bne_iff_ne.2 h10
    have h20b : (B != 20) = true := bne_iff_ne.2 h20
    clear hB
    go_enter Tryd.func16, Tryd.ntmps16
    go_wp2
    go_ret
    exact ⟨by rw [HV.out]; rfl, AL⟩

theorem greatest_any (x : Nm) (w : World) (hT : Tabs w) (hw : Nw w x) (hz : Sz x) : Calls Tryd.prog 17 #[nV x] w (fun e w' => e = .returned (.int .i64 (if validB x then 9999 else -1)) ∧ Aft w w') := by
  have AL : Aft w (w.alloc (.cells (nC x) 24)) := (Aft.refl w).alloc _
  obtain ⟨c0, c1, c2, c3, c4, c5, c6, c7⟩ := Bx.new w x 24
  have H1 := Lib.hid (valid_any x _ (tabs_aft hT AL) (hw.aft AL) hz)
  clear hT hw
  cases hv : validB x
  all_goals
    rw [hv] at H1
    clear hv
    go_enter Tryd.func17, Tryd.ntmps17
    go_wp2_with fail
    refine H1.out.mono ?_
    rintro e w1 ⟨rfl, N1⟩
    clear H1
    go_wp2
    go_ret
    exact ⟨by first | rfl | simp, AL.trans N1⟩
end Go.Proofs.YtdehghmpfkhljaaDoor
