/-
  divide returns the syllables of a word as pieces of its runes, or ErrArgument. Conditions: the slices hold the letters and the masks; the tables lie as their texts say; the word has at most 1000000 bytes.
-/
import Derived.Test.YtfjfgjncmliadaaDoorSylValid
namespace Go.Proofs.YtfjfgjncmliadaaDoor
open Go.RowKit Go.Maps
open AlphPlain

/-- A piece of the runes in block R, as a value. -/
def pcE (R C : Nat) (p : Nat × Nat) : Value := .slice (some ⟨R, p.1, none⟩) (p.2 - p.1) (C - p.1)
theorem Tryd.infoRs : (Tryd.prog.info? 40).map (fun i => (i.zero, i.size, i.bytes)) = some (some (.slice none 0 0), 1, 24) := by kernel_rfl

theorem Rr.sub {w : World} {R n C a b : Nat} {rs : List Int} (h : Rr w (some ⟨R, 0, none⟩) n C rs) (hab : a ≤ b) (hb : b ≤ n) : Rr w (some ⟨R, a, none⟩) (b - a) (C - a) (Go.Proofs.YtfjfgjncmliadaaDoor.sub rs a b) := by
  have hl := h.len
  have hle := h.le
  refine ⟨by rw [sub_length (by omega)], by omega, fun e => (by cases e), fun i r hi => ⟨R, a, rfl, ?_⟩⟩
  have hi2 : rs[a + i]? = some r := by
    unfold Go.Proofs.YtfjfgjncmliadaaDoor.sub at hi
    have hlt : i < b - a := by have := (List.getElem?_eq_some_iff.1 hi).1; simp at this; omega
    rw [List.getElem?_take_of_lt hlt, List.getElem?_drop] at hi
    exact hi
  obtain ⟨b', off, hA, h1⟩ := h.cells (a + i) r hi2
  cases hA
  rw [Nat.zero_add] at h1
  exact h1
theorem sub_mem {rs : List Int} {a b : Nat} {r : Int} (h : r ∈ Go.Proofs.YtfjfgjncmliadaaDoor.sub rs a b) : r ∈ rs := List.mem_of_mem_drop (List.mem_of_mem_take h)
theorem cut_no {ls : List Lt} {m : List (List Int)} {rs : List Int} {e Y : Nat} (h : e ≤ Y) (hn : onB ls m (Go.Proofs.YtfjfgjncmliadaaDoor.sub rs e Y) = false) : e + 1 ≤ Y ∧ cutAt (fun e => onB ls m (Go.Proofs.YtfjfgjncmliadaaDoor.sub rs e Y)) e (Y - e) = cutAt (fun e => onB ls m (Go.Proofs.YtfjfgjncmliadaaDoor.sub rs e Y)) (e + 1) (Y - (e + 1)) := by
  have hne : e ≠ Y := by
    intro he
    subst he
    rw [sub_nil, onB_nil] at hn
    cases hn
  refine ⟨by omega, ?_⟩
  rw [show Y - e = (Y - (e + 1)) + 1 by omega, cutAt]
  simp only [hn]
  rfl
theorem cut_yes {ls : List Lt} {m : List (List Int)} {rs : List Int} {e Y : Nat} (hn : onB ls m (Go.Proofs.YtfjfgjncmliadaaDoor.sub rs e Y) = true) : cutAt (fun e => onB ls m (Go.Proofs.YtfjfgjncmliadaaDoor.sub rs e Y)) e (Y - e) = e := by
  cases hk : Y - e with
  | zero => rfl
  | succ k => rw [cutAt]; simp only [hn]; rfl
theorem row_aft {wr w1 : World} {base : Nat} {e : TypeId} {size : Nat} {v : Value} {n : Nat} {l : List Value} (h : wr.ownsRow base e size v n l) (k : Aft wr w1) : w1.ownsRow base e size v n l := by
  refine h.kept (row := none) ⟨k.os, k.tape, k.output, k.size, fun j hj _ => k.block j hj⟩ ?_
  cases hv : v.ownBlock
  · exact .inl rfl
  · exact .inr (by simp)

def DivPost (w : World) (ls : List Lt) (m : List (List Int)) (s : ByteArray) (e : Ending) (w' : World) : Prop :=
  ∃ (R C : Nat) (X : Option Addr) (nx cx : Nat), e = .returned (.tuple #[.slice X nx cx, .int .i64 0]) ∧ Rw (pcE R C) w' X nx cx (sylP ls m (runesOf s)) ∧ Rr w' (some ⟨R, 0, none⟩) (runesOf s).length C (runesOf s) ∧ C ≤ 9223372036854775807 ∧ Aft w w'
def ErrPost (w : World) (e : Ending) (w' : World) : Prop := e = .returned (.tuple #[.slice none 0 0, .int .i64 1]) ∧ Aft w w'

set_option maxRecDepth 100000 in
set_option maxHeartbeats 1600000 in
theorem divide_bad (A : Option Addr) (n c : Nat) (ls : List Lt) (B : Option Addr) (m d : Nat) (os : List Mk) (L R : Int) (s : ByteArray) (w : World) (hT : Tabs w) (ha : Ll w A n c ls) (hb : Ons w B m d os) (hs : s.size ≤ 1000000) (hok : okD ls (masks os) L R s = false) :
    Calls Tryd.prog 42 #[.slice A n c, pV B m d L R, .string s] w (ErrPost w) := by
  have AL : Aft w (w.alloc (.cells #[.slice B m d, .int .i64 L, .int .i64 R] 24)) := (Aft.refl w).alloc _
  obtain ⟨t0, t1, t2⟩ := three_cells w (.slice B m d) (.int .i64 L) (.int .i64 R) 24
  unfold okD at hok
  cases hv : validB ls
  · go_enter Tryd.func42, Tryd.ntmps42
    go_wp2_with fail
    have h1 := valid_any A n c ls _ (ha.aft AL)
    rw [hv] at h1
    refine h1.mono ?_
    rintro e w1 ⟨rfl, A1⟩
    clear h1
    go_wp2
    go_ret2
    exact ⟨rfl, AL.trans A1⟩
  · cases hp : validP (masks os) L R
    · go_enter Tryd.func42, Tryd.ntmps42
      go_wp2_with fail
      have h1 := valid_any A n c ls _ (ha.aft AL)
      rw [hv] at h1
      refine h1.mono ?_
      rintro e w1 ⟨rfl, A1⟩
      clear h1
      have d0 := A1.cell t0
      have d1 := A1.cell t1
      have d2 := A1.cell t2
      go_wp2_with fail
      have h1 := validP_any B m d os L R w1 (hb.aft (AL.trans A1))
      rw [hp] at h1
      refine h1.mono ?_
      rintro e w2 ⟨rfl, A2⟩
      clear h1
      go_wp2
      go_ret2
      exact ⟨rfl, (AL.trans A1).trans A2⟩
    · have hw : wordB ls s = false := by simpa [hv, hp] using hok
      go_enter Tryd.func42, Tryd.ntmps42
      go_wp2_with fail
      have h1 := valid_any A n c ls _ (ha.aft AL)
      rw [hv] at h1
      refine h1.mono ?_
      rintro e w1 ⟨rfl, A1⟩
      clear h1
      have d0 := A1.cell t0
      have d1 := A1.cell t1
      have d2 := A1.cell t2
      go_wp2_with fail
      have h1 := validP_any B m d os L R w1 (hb.aft (AL.trans A1))
      rw [hp] at h1
      refine h1.mono ?_
      rintro e w2 ⟨rfl, A2⟩
      clear h1
      go_wp2_with fail
      have h1 := isWord_any A n c ls s w2 (ha.aft ((AL.trans A1).trans A2)) (by omega) (tabs_aft hT ((AL.trans A1).trans A2))
      rw [hw] at h1
      refine h1.mono ?_
      rintro e w3 ⟨rfl, A3⟩
      clear h1
      go_wp2
      go_ret2
      exact ⟨rfl, ((AL.trans A1).trans A2).trans A3⟩

set_option maxRecDepth 100000 in
set_option maxHeartbeats 1600000 in
theorem divide_any (A : Option Addr) (n c : Nat) (ls : List Lt) (B : Option Addr) (m d : Nat) (os : List Mk) (L R : Int) (s : ByteArray) (w : World) (hT : Tabs w) (ha : Ll w A n c ls) (hb : Ons w B m d os) (hs : s.size ≤ 1000000) (hok : okD ls (masks os) L R s = true) :
    Calls Tryd.prog 42 #[.slice A n c, pV B m d L R, .string s] w (DivPost w ls (masks os) s) := by
  have AL : Aft w (w.alloc (.cells #[.slice B m d, .int .i64 L, .int .i64 R] 24)) := (Aft.refl w).alloc _
  obtain ⟨t0, t1, t2⟩ := three_cells w (.slice B m d) (.int .i64 L) (.int .i64 R) 24
  have hrl : (runesOf s).length ≤ 1000000 := by have := size_runesFrom s s.size 0 #[]; rw [runes_size] at this; simp at this; omega
  unfold okD at hok
  simp only [Bool.and_eq_true] at hok
  obtain ⟨⟨hv, hp⟩, hw⟩ := hok
  go_enter Tryd.func42, Tryd.ntmps42
  go_wp2_with fail
  have h1 := valid_any A n c ls _ (ha.aft AL)
  rw [hv] at h1
  refine h1.mono ?_
  rintro e w1 ⟨rfl, A1⟩
  clear h1
  have d0 := A1.cell t0
  have d1 := A1.cell t1
  have d2 := A1.cell t2
  go_wp2_with fail
  have h1 := validP_any B m d os L R w1 (hb.aft (AL.trans A1))
  rw [hp] at h1
  refine h1.mono ?_
  rintro e w2 ⟨rfl, A2⟩
  clear h1
  have e0 := A2.cell d0
  have e1 := A2.cell d1
  have e2 := A2.cell d2
  go_wp2_with fail
  have h1 := isWord_any A n c ls s w2 (ha.aft ((AL.trans A1).trans A2)) (by omega) (tabs_aft hT ((AL.trans A1).trans A2))
  rw [hw] at h1
  refine h1.mono ?_
  rintro e w3 ⟨rfl, A3⟩
  clear h1
  have f0 := A3.cell e0
  have f1 := A3.cell e1
  have f2 := A3.cell e2
  have B3 := ((AL.trans A1).trans A2).trans A3
  clear t0 t1 t2 d0 d1 d2 e0 e1 e2 A1 A2 A3 AL hv hp hw
  go_wp2_with fail
  refine (onsetTest_any A n c ls B m d os L R w3 (ha.aft B3) (hb.aft B3)).mono ?_
  rintro e w4 ⟨Bp, Bh, rfl, ht, A4⟩
  have HTt := Lib.hid ht
  have B4 := B3.trans A4
  have hcv := conv_run s (by omega) w4
  have A5 := conv_aft s w4
  have hrr := conv_rr s w4
  have hcc := conv_cap s w4 hs
  clear ht f0 f1 f2
  generalize convW s w4 = w5 at *
  generalize convC s w4 = C at *
  generalize w4.heap.size = RB at *
  have B5 := B4.trans A5
  have HR := Lib.hid hrr
  have hrC := hrr.le
  clear hrr
  go_wp2_with fail
  refine (nuclei_any A n c ls s w5 (ha.aft B5) hs).mono ?_
  rintro e w6 ⟨⟨NA, nn, nc, rfl, hns⟩, A6⟩
  have HN := Lib.hid hns
  have hnn : (nuc ls (runesOf s) 0).length = nn := by have := hns.len; rwa [natI_length] at this
  have hnle := hns.le
  have hncm := hns.cmax
  have hnl : nn ≤ (runesOf s).length := by rw [← hnn]; exact nuc_len _ _ _
  have HL := Lib.hid hnn
  clear hns hnn ha hb hT
  obtain ⟨i0, hi, hz0, hz1, hz2⟩ := info_parts Tryd.infoRs
  go_wp2
  go_loopw [11, 12, 13] (fun v b i wr => ∃ (k bg : Nat) (ps : List (Nat × Nat)), (k ≤ nn ∨ nn = 0 ∧ k = 1) ∧ 1 ≤ k ∧ i = .int .i64 (k : Nat) ∧ b = .int .i64 (bg : Nat) ∧ wr.ownsRow w6.heap.size 40 1 v ps.length (ps.map (pcE RB C)) ∧ ps.length + 1 ≤ k ∧ sylP ls (masks os) (runesOf s) = ps ++ pcs (runesOf s).length bg (begs ls (masks os) (runesOf s) ((nuc ls (runesOf s) 0).drop (k - 1))) ∧ (∀ x, (nuc ls (runesOf s) 0)[k - 1]? = some x → bg ≤ x) ∧ Aft w6 wr) (fun _ _ i _ => nn + 1 - (intOf i).toNat)
  case atStart => exact ⟨1, 0, [], by omega, Nat.le_refl _, rfl, rfl, World.ownsRow_nil _ _ _ _, by simp, rfl, fun x _ => Nat.zero_le _, Aft.refl _⟩
  case round =>
    obtain ⟨k, bg, ps, hk, hk1, rfl, rfl, own, hpl, he, hbx, haf⟩ := hrel
    have HE := Lib.hid he
    have HO := Lib.hid own
    have HB := Lib.hid hbx
    clear he own hbx
    by_cases hlt : k < nn
    · have hki : (k : Int) < (nn : Int) := by omega
      obtain ⟨q, hq⟩ : ∃ q, q = k - 1 := ⟨_, rfl⟩
      have hq1 : (k : Int) - 1 = (q : Int) := by omega
      have hqn : q < nn := by omega
      have HQ := Lib.hid (show k = q + 1 by omega)
      clear hq
      obtain ⟨b1, off1, x, rfl, hx, g1⟩ := HN.out.at_ hqn
      obtain ⟨b2, off2, y, hA2, hy, g2⟩ := HN.out.at_ hlt
      cases hA2
      obtain ⟨X, hX, rfl⟩ : ∃ X, (nuc ls (runesOf s) 0)[q]? = some X ∧ (X : Int) = x := by
        unfold natI at hx
        rw [List.getElem?_map] at hx
        obtain ⟨X, h1, h2⟩ := Option.map_eq_some_iff.1 hx
        exact ⟨X, h1, h2⟩
      obtain ⟨Y, hY, rfl⟩ : ∃ Y, (nuc ls (runesOf s) 0)[k]? = some Y ∧ (Y : Int) = y := by
        unfold natI at hy
        rw [List.getElem?_map] at hy
        obtain ⟨Y, h1, h2⟩ := Option.map_eq_some_iff.1 hy
        exact ⟨Y, h1, h2⟩
      have hXY := nuc_lt hX (by rw [← HQ.out]; exact hY)
      have hYl := (nuc_mem (List.mem_of_getElem? hY)).2
      have hbX := HB.out X (by rw [HQ.out]; exact hX)
      have HS := Lib.hid (begs_two (ls := ls) (ons := masks os) (rs := runesOf s) hX (by rw [← HQ.out]; exact hY))
      have HY := Lib.hid hY
      have g1' := haf.cell g1
      have g2' := haf.cell g2
      clear hx hy hX hY g1 g2
      go_wp2
      obtain ⟨wo, rfl⟩ : ∃ wo : World, wo = wr := ⟨_, rfl⟩
      go_loopw [14] (fun v wr' => ∃ e : Nat, X + 1 ≤ e ∧ e ≤ Y ∧ v = .int .i64 (e : Nat) ∧ cut ls (masks os) (runesOf s) (X + 1) Y = cutAt (fun e => onB ls (masks os) (sub (runesOf s) e Y)) e (Y - e) ∧ Aft wo wr') (fun v _ => Y - (intOf v).toNat)
      case atStart => exact ⟨X + 1, Nat.le_refl _, hXY, rfl, rfl, Aft.refl _⟩
      case round =>
        obtain ⟨e, he1, he2, rfl, hcut, hao⟩ := hrel
        have HCU := Lib.hid hcut
        have g2'' := hao.cell g2'
        have heY : (e : Int) ≤ (Y : Int) := by omega
        have hYC : (Y : Int) ≤ (C : Int) := by omega
        clear hcut
        have HON := Lib.hid (on_any (some ⟨RB, e, none⟩) (Y - e) (C - e) (sub (runesOf s) e Y) Bp Bh ls os wr (((HR.out.aft A6).aft (haf.trans hao)).sub he2 (by omega)) (by omega) ((HTt.out.aft A5).aft (A6.trans (haf.trans hao))) (fun r hr => runes_wf s _ _ r (sub_mem hr)))
        cases hon : onB ls (masks os) (sub (runesOf s) e Y)
        · rw [hon] at HON
          have HCN := Lib.hid (cut_no (ls := ls) (m := masks os) (rs := runesOf s) he2 hon)
          clear hon
          go_wp2_with fail
          refine HON.out.mono ?_
          rintro e' w7 ⟨rfl, A7⟩
          clear HON
          go_wp2
          go_roundw
          case rel => exact ⟨e + 1, by omega, HCN.out.1, by go_num, by rw [HCU.out, HCN.out.2], hao.trans A7⟩
          case measure => have := HCN.out.1; simp [intOf]; omega
        · rw [hon] at HON
          have HCN := Lib.hid (cut_yes (ls := ls) (m := masks os) (rs := runesOf s) hon)
          have hbe : (bg : Int) ≤ (e : Int) := by omega
          have heC : (e : Int) ≤ (C : Int) := by omega
          clear hon
          go_wp2_with fail
          refine HON.out.mono ?_
          rintro e' w7 ⟨rfl, A7⟩
          clear HON g1' g2' g2''
          have A8 := hao.trans A7
          have O8 := Lib.hid (row_aft HO.out A8)
          have hs8 := (haf.trans A8).size
          go_wp2_with (at_builtin; refine wpList_append_own _ rfl _ _ 62 rfl w6.heap.size 40 i0 _ 1 24 Tryd.underlying62 hi hz0 hz1 hz2 rfl (by decide) _ _ _ rfl (O8.out.alloc _) ⟨w7.heap.size, 0, none⟩ 1 1 [pcE RB C (bg, e)] rfl rfl (one_val _ _ _ _ rfl) (by intro u hu; simp at hu; subst hu; rfl) (by unfold maxLen; omega) (by omega) (by simp; omega) ?_; intro v' w9 own2 grow2 _)
          have hrel : ∀ V, v' = V → ∃ (k_1 bg_1 : Nat) (ps_1 : List (Nat × Nat)), (k_1 ≤ nn ∨ nn = 0 ∧ k_1 = 1) ∧ 1 ≤ k_1 ∧ Value.int .i64 ((k : Int) + 1) = .int .i64 (k_1 : Nat) ∧ Value.int .i64 (e : Int) = .int .i64 (bg_1 : Nat) ∧ w9.ownsRow w6.heap.size 40 1 V ps_1.length (ps_1.map (pcE RB C)) ∧ ps_1.length + 1 ≤ k_1 ∧ sylP ls (masks os) (runesOf s) = ps_1 ++ pcs (runesOf s).length bg_1 (begs ls (masks os) (runesOf s) ((nuc ls (runesOf s) 0).drop (k_1 - 1))) ∧ (∀ x, (nuc ls (runesOf s) 0)[k_1 - 1]? = some x → bg_1 ≤ x) ∧ Aft w6 w9 := by
            rintro V rfl
            refine ⟨k + 1, e, ps ++ [(bg, e)], by omega, by omega, by simp, rfl, ?_, by simp; omega, ?_, ?_, ((haf.trans A8).alloc _).grown grow2 (fun k e => (O8.out.lt k e).1)⟩
            · rw [List.length_append, List.map_append]
              exact own2
            · have h := HE.out
              rw [show k - 1 = q by rw [HQ.out]; rfl, HS.out, HCU.out, HCN.out, pcs, ← HQ.out] at h
              rw [h, List.append_assoc]
              rfl
            · intro x hx
              rw [show k + 1 - 1 = k from rfl, HY.out] at hx
              cases hx
              exact he2
          have HRL := Lib.hid hrel
          clear hrel
          obtain ⟨g', cap', rfl⟩ := row_succ own2
          clear own2 grow2
          go_wp2
          go_roundw
          case rel => exact HRL.out _ rfl
          case measure => simp [intOf]; omega
    · have HZ := Lib.hid (begs_one (ls := ls) (ons := masks os) (rs := runesOf s) (ns := nuc ls (runesOf s) 0) (k := k - 1) (by rw [HL.out]; omega))
      have hki : ¬ (k : Int) < (nn : Int) := by omega
      have O8 := Lib.hid HO.out
      have hs8 := haf.size
      by_cases hbl : bg < (runesOf s).length
      · have hbl' : (bg : Int) < ((runesOf s).length : Int) := by omega
        have hbC : (bg : Int) < (C : Int) := by omega
        go_wp2_with (at_builtin; refine wpList_append_own _ rfl _ _ 62 rfl w6.heap.size 40 i0 _ 1 24 Tryd.underlying62 hi hz0 hz1 hz2 rfl (by decide) _ _ _ rfl (O8.out.alloc _) ⟨wr.heap.size, 0, none⟩ 1 1 [pcE RB C (bg, (runesOf s).length)] rfl rfl (one_val _ _ _ _ rfl) (by intro u hu; simp at hu; subst hu; rfl) (by unfold maxLen; omega) (by omega) (by simp; omega) ?_; intro v' w9 own2 grow2 _)
        have hfin : ∀ V, v' = V → ∃ X nx cx, V = .slice X nx cx ∧ Rw (pcE RB C) w9 X nx cx (sylP ls (masks os) (runesOf s)) := by
          rintro V rfl
          have h := HE.out
          rw [HZ.out, pcs, if_pos hbl] at h
          obtain ⟨X, cx, e1, h1⟩ := Rw.of_row (enc := pcE RB C) (l := ps ++ [(bg, (runesOf s).length)]) (by rw [List.map_append]; exact own2) (by simp)
          exact ⟨X, _, cx, e1, by rw [h]; exact h1⟩
        have A9 : Aft w6 w9 := (haf.alloc _).grown grow2 (fun k e => (O8.out.lt k e).1)
        obtain ⟨X, nx, cx, rfl, hrw⟩ := hfin _ rfl
        have HRW := Lib.hid hrw
        clear hrw own2 grow2 hfin
        go_wp2
        go_ret2
        exact ⟨RB, C, X, nx, cx, rfl, HRW.out, (HR.out.aft A6).aft A9, hcc, (B5.trans A6).trans A9⟩
      · have hbl' : ¬ (bg : Int) < ((runesOf s).length : Int) := by omega
        obtain ⟨X, cx, rfl, hrw⟩ := Rw.of_row HO.out rfl
        have HRW := Lib.hid hrw
        clear hrw
        go_wp2
        go_ret2
        refine ⟨RB, C, X, _, cx, rfl, ?_, (HR.out.aft A6).aft haf, hcc, (B5.trans A6).trans haf⟩
        have h := HE.out
        rw [HZ.out, pcs, if_neg hbl, List.append_nil] at h
        rw [h]
        exact HRW.out
end Go.Proofs.YtfjfgjncmliadaaDoor
