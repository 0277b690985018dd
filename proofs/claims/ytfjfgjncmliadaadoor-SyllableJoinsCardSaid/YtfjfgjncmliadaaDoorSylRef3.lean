/-
  The reference's check, Starts, Split and Points. Conditions: the slices hold the letters and the masks; the word has at most 200 bytes.
-/
import Derived.Test.YtfjfgjncmliadaaDoorSylRef2
import Derived.Deep.RegionHeld3
import Derived.Test.YtfjfgjncmliadaaDoorRegion
namespace Go.Proofs.YtfjfgjncmliadaaDoor
open Go.RowKit Go.Maps
open AlphPlain

theorem row_zero {w : World} {base : Nat} {e : TypeId} {size : Nat} {v : Value} {n : Nat} {xs : List Value} (hr : w.ownsRow base e size v n xs) : w.ownsRow 0 e size v n xs := by
  refine ⟨hr.1, ?_⟩
  rcases hr.2 with k | ⟨g, cap, cur, hv, _, r⟩
  · exact .inl k
  · exact .inr ⟨g, cap, cur, hv, Nat.zero_le _, r⟩
/-- As IsPost; and the row is new. -/
def IsPostB (w : World) (l : List Int) (e : Ending) (w' : World) : Prop := (∃ A n c, e = .returned (.slice A n c) ∧ Rw vI w' A n c l ∧ ∀ a, A = some a → w.heap.size ≤ a.block) ∧ Aft w w'
theorem Rw.grown {α : Type} {enc : α → Value} {w w' : World} {A : Option Addr} {n c : Nat} {l : List α} {row : Option Nat} (h : Rw enc w A n c l) (hg : w.grownBy w' row) (hne : ∀ a, A = some a → row ≠ some a.block) : Rw enc w' A n c l :=
  ⟨h.len, h.le, h.cmax, h.nl, fun i x hi => by
    obtain ⟨b, off, hA, h1⟩ := h.cells i x hi
    exact ⟨b, off, hA, hg.cell h1 (fun e => hne _ hA e.symm)⟩⟩
/-- Where the syllables begin. -/
def stP (ls : List Lt) (m : List (List Int)) (rs : List Int) : List Nat := if rs.length = 0 then [] else 0 :: begs ls m rs (nuc ls rs 0)
theorem begs_lt {ls : List Lt} {m : List (List Int)} {rs : List Int} {n : Nat} : ∀ (ns : List Nat), ns.Pairwise (· < ·) → (∀ x ∈ ns, x < n) → ∀ e ∈ begs ls m rs ns, e < n
  | [], _, _, e, h => by rw [begs] at h; · cases h
                         · simp
  | [x], _, _, e, h => by rw [begs] at h; · cases h
                          · simp
  | x :: y :: ns, hs, hn, e, h => by
    rw [begs] at h
    have hxy : x < y := (List.pairwise_cons.1 hs).1 y (by simp)
    have hc := cut_le (ls := ls) (m := m) (rs := rs) (show x + 1 ≤ y from hxy)
    rcases List.mem_cons.1 h with rfl | h
    · have := hn y (by simp); omega
    · exact begs_lt (y :: ns) (List.pairwise_cons.1 hs).2 (fun z hz => hn z (by simp [List.mem_cons.1 hz])) e h
theorem pcs_length {n : Nat} : ∀ (es : List Nat) (b : Nat), (∀ e ∈ b :: es, e < n) → (pcs n b es).length = es.length + 1
  | [], b, h => by rw [pcs, if_pos (h b (by simp))]; rfl
  | e :: es, b, h => by rw [pcs, List.length_cons, pcs_length es e (fun x hx => h x (by simp [List.mem_cons.1 hx])), List.length_cons]
theorem pcs_get {n : Nat} : ∀ (es : List Nat) (b i x : Nat), (∀ e ∈ b :: es, e < n) → (b :: es)[i]? = some x → (pcs n b es)[i]? = some (x, ((b :: es)[i + 1]?).getD n)
  | [], b, 0, x, h, hx => by rw [pcs, if_pos (h b (by simp))]; simp at hx; subst hx; rfl
  | [], b, i + 1, x, h, hx => by simp at hx
  | e :: es, b, 0, x, h, hx => by rw [pcs]; simp at hx; subst hx; rfl
  | e :: es, b, i + 1, x, h, hx => by
    rw [pcs]
    have := pcs_get es e i x (fun y hy => h y (by simp [List.mem_cons.1 hy])) (by simpa using hx)
    simpa using this
theorem stP_lt {ls : List Lt} {m : List (List Int)} {rs : List Int} : ∀ e ∈ stP ls m rs, e < rs.length := by
  intro e he
  unfold stP at he
  split at he
  · cases he
  · rcases List.mem_cons.1 he with rfl | he
    · omega
    · exact begs_lt _ (nuc_pair ls rs 0) (fun x hx => by have := (nuc_mem hx).2; omega) e he
theorem sylP_get {ls : List Lt} {m : List (List Int)} {rs : List Int} {i x : Nat} (h : (stP ls m rs)[i]? = some x) : (sylP ls m rs)[i]? = some (x, ((stP ls m rs)[i + 1]?).getD rs.length) := by
  have hl := stP_lt (ls := ls) (m := m) (rs := rs)
  unfold stP at h hl ⊢
  split at h
  · simp at h
  · rename_i h0
    rw [if_neg h0] at hl ⊢
    exact pcs_get _ 0 i x hl h
theorem sylP_length {ls : List Lt} {m : List (List Int)} {rs : List Int} : (sylP ls m rs).length = (stP ls m rs).length := by
  have hl := stP_lt (ls := ls) (m := m) (rs := rs)
  unfold stP at hl ⊢
  by_cases h0 : rs.length = 0
  · have hr : rs = [] := List.length_eq_zero_iff.1 h0
    subst hr
    rfl
  · rw [if_neg h0] at hl ⊢
    exact pcs_length _ 0 hl

set_option maxRecDepth 100000 in
set_option maxHeartbeats 1600000 in
theorem refCheck_any (A : Option Addr) (n c : Nat) (ls : List Lt) (B : Option Addr) (m d : Nat) (os : List Mk) (L R : Int) (s : ByteArray) (w : World) (ha : Ll w A n c ls) (hb : Ons w B m d os) (hs : s.size ≤ 200) :
    Calls Tryd.prog 43 #[.slice A n c, pV B m d L R, .string s] w (ValPost w (.int .i64 (errOf (okD ls (masks os) L R s)))) := by
  have AL : Aft w (w.alloc (.cells #[.slice B m d, .int .i64 L, .int .i64 R] 24)) := (Aft.refl w).alloc _
  obtain ⟨t0, t1, t2⟩ := three_cells w (.slice B m d) (.int .i64 L) (.int .i64 R) 24
  cases hv : validB ls
  · have HX := Lib.hid (show errOf (okD ls (masks os) L R s) = 1 by unfold okD; rw [hv]; rfl)
    go_enter Tryd.func43, Tryd.ntmps43
    go_wp2_with fail
    have h1 := refValid_any A n c ls _ (ha.aft AL)
    rw [hv] at h1
    refine h1.mono ?_
    rintro e w1 ⟨rfl, A1⟩
    clear h1
    go_wp2
    go_ret
    exact ⟨by rw [HX.out]; rfl, AL.trans A1⟩
  · cases hp : validP (masks os) L R
    · have HX := Lib.hid (show errOf (okD ls (masks os) L R s) = 1 by unfold okD; rw [hv, hp]; rfl)
      go_enter Tryd.func43, Tryd.ntmps43
      go_wp2_with fail
      have h1 := refValid_any A n c ls _ (ha.aft AL)
      rw [hv] at h1
      refine h1.mono ?_
      rintro e w1 ⟨rfl, A1⟩
      clear h1
      have d0 := A1.cell t0
      have d1 := A1.cell t1
      have d2 := A1.cell t2
      go_wp2_with fail
      have h1 := refValidP_any B m d os L R w1 (hb.aft (AL.trans A1))
      rw [hp] at h1
      refine h1.mono ?_
      rintro e w2 ⟨rfl, A2⟩
      clear h1
      go_wp2
      go_ret
      exact ⟨by rw [HX.out]; rfl, (AL.trans A1).trans A2⟩
    · cases hw : wordB ls s
      all_goals
        have HX := Lib.hid (show errOf (okD ls (masks os) L R s) = errOf (wordB ls s) by unfold okD; rw [hv, hp]; rfl)
        rw [hw] at HX
        go_enter Tryd.func43, Tryd.ntmps43
        go_wp2_with fail
        have h1 := refValid_any A n c ls _ (ha.aft AL)
        rw [hv] at h1
        refine h1.mono ?_
        rintro e w1 ⟨rfl, A1⟩
        clear h1
        have d0 := A1.cell t0
        have d1 := A1.cell t1
        have d2 := A1.cell t2
        go_wp2_with fail
        have h1 := refValidP_any B m d os L R w1 (hb.aft (AL.trans A1))
        rw [hp] at h1
        refine h1.mono ?_
        rintro e w2 ⟨rfl, A2⟩
        clear h1
        go_wp2_with fail
        have h1 := refIsWord_any A n c ls s w2 (ha.aft ((AL.trans A1).trans A2)) hs
        rw [hw] at h1
        refine h1.mono ?_
        rintro e w3 ⟨rfl, A3⟩
        clear h1
        go_wp2
        go_ret
        exact ⟨by rw [HX.out]; rfl, ((AL.trans A1).trans A2).trans A3⟩

set_option maxRecDepth 100000 in
set_option maxHeartbeats 1600000 in
/-- The loop of Starts: behind Nuclei. -/
theorem refStarts_any (A : Option Addr) (n c : Nat) (ls : List Lt) (B : Option Addr) (m d : Nat) (os : List Mk) (L R : Int) (s : ByteArray) (w : World) (ha : Ll w A n c ls) (hb : Ons w B m d os) (hs : s.size ≤ 1000000) :
    Calls Tryd.prog 44 #[.slice A n c, pV B m d L R, .string s] w (IsPostB w (natI (stP ls (masks os) (runesOf s)))) := by
  have AL : Aft w (w.alloc (.cells #[.slice B m d, .int .i64 L, .int .i64 R] 24)) := (Aft.refl w).alloc _
  obtain ⟨t0, t1, t2⟩ := three_cells w (.slice B m d) (.int .i64 L) (.int .i64 R) 24
  obtain ⟨i0, hi, hz0, hz1, hz2⟩ := info_parts Tryd.infoI
  have hrl : (runesOf s).length ≤ 1000000 := by have := size_runesFrom s s.size 0 #[]; rw [runes_size] at this; simp at this; omega
  have hcv := conv_run s (by omega) (w.alloc (.cells #[.slice B m d, .int .i64 L, .int .i64 R] 24))
  have A1 := conv_aft s (w.alloc (.cells #[.slice B m d, .int .i64 L, .int .i64 R] 24))
  have hra := conv_own s (w.alloc (.cells #[.slice B m d, .int .i64 L, .int .i64 R] 24)) hs
  have hcc := conv_cap s (w.alloc (.cells #[.slice B m d, .int .i64 L, .int .i64 R] 24)) hs
  have hrC := (conv_rr s (w.alloc (.cells #[.slice B m d, .int .i64 L, .int .i64 R] 24))).le
  generalize convW s (w.alloc (.cells #[.slice B m d, .int .i64 L, .int .i64 R] 24)) = w1 at *
  generalize convC s (w.alloc (.cells #[.slice B m d, .int .i64 L, .int .i64 R] 24)) = C at *
  generalize (w.alloc (.cells #[.slice B m d, .int .i64 L, .int .i64 R] 24)).heap.size = RB at *
  have B1 := AL.trans A1
  have d0 := A1.cell t0
  have d1 := A1.cell t1
  have d2 := A1.cell t2
  have hs1 : w.heap.size + 1 ≤ w1.heap.size := by have := A1.size; simpa using this
  have A2 : Aft w1 (w1.alloc (.cells #[] 3)) := (Aft.refl w1).alloc _
  have own0 : (w1.alloc (.cells #[] 3)).ownsRow (w.heap.size + 1) 3 1 (.slice (some ⟨w1.heap.size, 0, none⟩) 0 0) 0 [] := World.ownsRow_lit w1 #[] 0 hs1 (by unfold maxLen; omega) rfl
  have hra2 := row_aft hra A2
  have e0 := A2.cell d0
  have e1 := A2.cell d1
  have e2 := A2.cell d2
  have HO0 := Lib.hid own0
  have HRA0 := Lib.hid hra2
  clear t0 t1 t2 d0 d1 d2 own0 hra hra2
  by_cases h0 : (runesOf s).length = 0
  · have HST := Lib.hid (show stP ls (masks os) (runesOf s) = [] by unfold stP; rw [if_pos h0])
    have HNU := Lib.hid (show nuc ls (runesOf s) 0 = [] by rw [List.length_eq_zero_iff.1 h0]; rfl)
    have h0' : ¬ (0 : Int) < ((runesOf s).length : Int) := by omega
    have hz : (((runesOf s).length : Nat) : Int) = 0 := by omega
    rw [h0] at hcv
    clear h0 h0' hz
    go_enter Tryd.func44, Tryd.ntmps44
    go_wp2_with fail
    refine (refNucleiR_any A n c ls s _ (ha.aft (B1.trans A2)) hs).mono ?_
    rintro e w4 ⟨vN, rfl, ownN, A4⟩
    rw [HNU.out] at ownN
    have hO := row_aft HO0.out A4
    rcases row_form ownN with ⟨rfl, _⟩ | ⟨g, cap, rfl⟩
    · obtain ⟨X, cx, eX, hX⟩ := Rw.of_row (enc := vI) (l := []) hO rfl
      cases eX
      have HS := Lib.hid hX
      clear ownN hO hX
      go_wp2
      go_loopw [8, 10] (fun v i wr => v = .slice (some ⟨w1.heap.size, 0, none⟩) 0 0 ∧ i = .int .i64 1 ∧ w4 = wr) (fun _ _ _ => 0)
      case atStart => exact ⟨rfl, rfl, rfl⟩
      case round =>
        obtain ⟨rfl, rfl, rfl⟩ := hrel
        go_wp2
        go_ret
        exact ⟨⟨_, _, _, rfl, by rw [HST.out]; exact HS.out, fun a e => by cases e; show w.heap.size ≤ w1.heap.size; omega⟩, (B1.trans A2).trans A4⟩
    · obtain ⟨X, cx, eX, hX⟩ := Rw.of_row (enc := vI) (l := []) hO rfl
      cases eX
      have HS := Lib.hid hX
      clear ownN hO hX
      go_wp2
      go_loopw [8, 10] (fun v i wr => v = .slice (some ⟨w1.heap.size, 0, none⟩) 0 0 ∧ i = .int .i64 1 ∧ w4 = wr) (fun _ _ _ => 0)
      case atStart => exact ⟨rfl, rfl, rfl⟩
      case round =>
        obtain ⟨rfl, rfl, rfl⟩ := hrel
        go_wp2
        go_ret
        exact ⟨⟨_, _, _, rfl, by rw [HST.out]; exact HS.out, fun a e => by cases e; show w.heap.size ≤ w1.heap.size; omega⟩, (B1.trans A2).trans A4⟩
  · have HST := Lib.hid (show stP ls (masks os) (runesOf s) = 0 :: begs ls (masks os) (runesOf s) ((nuc ls (runesOf s) 0).drop (1 - 1)) by unfold stP; rw [if_neg h0]; rfl)
    have h0' : (0 : Int) < ((runesOf s).length : Int) := by omega
    go_enter Tryd.func44, Tryd.ntmps44
    go_wp2_with (at_builtin; refine wpList_append_own_at _ rfl _ _ 30 rfl (w.heap.size + 1) 3 i0 _ 1 8 Tryd.underlying30 hi hz0 hz1 hz2 rfl (by decide) _ _ _ rfl (HO0.out.alloc _) ⟨w1.heap.size + 1, 0, none⟩ 1 1 [vI 0] rfl rfl (one_val _ _ _ _ (World.size_alloc _ _)) (oneI _) (by unfold maxLen; omega) (by omega) (by simp; omega) ?_; intro v1 w2 own2 grow2 _ _)
    have A3 : Aft w w2 := ((B1.trans A2).alloc _).grown grow2 (fun k e => by have := (HO0.out.lt k e).1; omega)
    have R2 : RunesAt w2 RB C (runesOf s) := RunesAt.grown HRA0.out HO0.out (by decide) grow2
    have f0 := grow2.cell (((Aft.refl _).alloc _).cell e0) (fun e => Nat.not_succ_le_self _ (HO0.out.lt _ e.symm).1)
    have f1 := grow2.cell (((Aft.refl _).alloc _).cell e1) (fun e => Nat.not_succ_le_self _ (HO0.out.lt _ e.symm).1)
    have f2 := grow2.cell (((Aft.refl _).alloc _).cell e2) (fun e => Nat.not_succ_le_self _ (HO0.out.lt _ e.symm).1)
    have HR2 := Lib.hid R2
    have HO2 := Lib.hid own2
    clear R2 HRA0 HO0 A2 e0 e1 e2
    obtain ⟨gv, capv, rfl⟩ := row_succ own2
    have hgv : gv < w2.heap.size := (HO2.out.lt gv rfl).2
    clear own2 grow2
    go_wp2_with fail
    refine (refNucleiR_any A n c ls s w2 (ha.aft A3) hs).mono ?_
    rintro e w4 ⟨vN, rfl, ownN, A4⟩
    have hnn : (natI (nuc ls (runesOf s) 0)).length = (nuc ls (runesOf s) 0).length := natI_length _
    obtain ⟨NA, nc, rfl, hns⟩ := Rw.of_row (enc := vI) ownN hnn
    have hNb : ∀ a, NA = some a → w2.heap.size ≤ a.block := fun a e => (ownN.lt a.block (by rw [e]; rfl)).1
    have hnle := hns.le
    have hncm := hns.cmax
    have hnl : (nuc ls (runesOf s) 0).length ≤ (runesOf s).length := nuc_len _ _ _
    have HN := Lib.hid (row_zero ownN)
    have HO4 := Lib.hid (row_aft HO2.out A4)
    have HR4 := Lib.hid (show RunesAt w4 RB C (runesOf s) from row_aft HR2.out A4)
    have g0 := A4.cell f0
    have g1 := A4.cell f1
    have g2 := A4.cell f2
    have B4 := A3.trans A4
    have HNU := Lib.hid (show ∃ ns, ns = nuc ls (runesOf s) 0 from ⟨_, rfl⟩)
    generalize hnu : nuc ls (runesOf s) 0 = ns at *
    have HNE := Lib.hid hnu
    generalize hnn2 : ns.length = nn at *
    have HL := Lib.hid hnn2
    clear ownN hns HO2 HR2 f0 f1 f2 hnn hnu hnn2 HNU
    go_wp2
    go_loopw [8, 10] (fun v i wr => ∃ (k : Nat) (sts : List Nat), (k ≤ nn ∨ nn = 0 ∧ k = 1) ∧ 1 ≤ k ∧ i = .int .i64 (k : Nat) ∧ wr.ownsRow (w.heap.size + 1) 3 1 v sts.length ((natI sts).map vI) ∧ sts.length ≤ k ∧ stP ls (masks os) (runesOf s) = sts ++ begs ls (masks os) (runesOf s) (ns.drop (k - 1)) ∧ (∀ a, NA = some a → v.ownBlock ≠ some a.block) ∧ wr.ownsRow 0 3 1 (.slice NA nn nc) nn ((natI ns).map vI) ∧ RunesAt wr RB C (runesOf s) ∧ wr.cell? ⟨w.heap.size, 0, none⟩ = some (.slice B m d) ∧ wr.cell? ⟨w.heap.size, 1, none⟩ = some (.int .i64 L) ∧ wr.cell? ⟨w.heap.size, 2, none⟩ = some (.int .i64 R) ∧ Aft w wr) (fun _ i _ => nn + 1 - (intOf i).toNat)
    case atStart => exact ⟨1, [0], by omega, Nat.le_refl _, rfl, by simpa [natI] using HO4.out, by simp, HST.out, fun a e => by have := hNb a e; simp [Value.ownBlock]; omega, HN.out, HR4.out, g0, g1, g2, B4⟩
    case round =>
      obtain ⟨k, sts, hk, hk1, rfl, own, hsl, he, hdis, hN, hR, c0, c1, c2, haf⟩ := hrel
      have HE := Lib.hid he
      have HO := Lib.hid own
      have HD := Lib.hid hdis
      have HNN := Lib.hid hN
      have HRR := Lib.hid hR
      clear he own hdis hN hR
      by_cases hlt : k < nn
      · have hki : (k : Int) < (nn : Int) := by omega
        obtain ⟨q, hq⟩ : ∃ q, q = k - 1 := ⟨_, rfl⟩
        have hq1 : (k : Int) - 1 = (q : Int) := by omega
        have hqn : q < nn := by omega
        have HQ := Lib.hid (show k = q + 1 by omega)
        clear hq
        obtain ⟨NA2, cx2, eN, hrwN⟩ := Rw.of_row (enc := vI) HNN.out (by rw [natI_length]; exact HL.out)
        cases eN
        obtain ⟨b1, off1, x, rfl, hx, g1⟩ := hrwN.at_ hqn
        obtain ⟨b2, off2, y, hA2, hy, g2⟩ := hrwN.at_ hlt
        cases hA2
        obtain ⟨X, hX, rfl⟩ : ∃ X, ns[q]? = some X ∧ (X : Int) = x := by
          unfold natI at hx
          rw [List.getElem?_map] at hx
          obtain ⟨X, h1, h2⟩ := Option.map_eq_some_iff.1 hx
          exact ⟨X, h1, h2⟩
        obtain ⟨Y, hY, rfl⟩ : ∃ Y, ns[k]? = some Y ∧ (Y : Int) = y := by
          unfold natI at hy
          rw [List.getElem?_map] at hy
          obtain ⟨Y, h1, h2⟩ := Option.map_eq_some_iff.1 hy
          exact ⟨Y, h1, h2⟩
        have hXY : X < Y := nuc_lt (ls := ls) (rs := runesOf s) (i := 0) (by rw [HNE.out]; exact hX) (by rw [HNE.out, ← HQ.out]; exact hY)
        have hYl : Y < 0 + (runesOf s).length := (nuc_mem (ls := ls) (rs := runesOf s) (by rw [HNE.out]; exact List.mem_of_getElem? hY)).2
        have HS := Lib.hid (begs_two (ls := ls) (ons := masks os) (rs := runesOf s) hX (by rw [← HQ.out]; exact hY))
        clear hx hy hX hY hrwN
        go_wp2
        obtain ⟨wo, rfl⟩ : ∃ wo : World, wo = wr := ⟨_, rfl⟩
        go_loopw [11] (fun v wr' => ∃ e : Nat, X + 1 ≤ e ∧ e ≤ Y ∧ v = .int .i64 (e : Nat) ∧ cut ls (masks os) (runesOf s) (X + 1) Y = cutAt (fun e => onB ls (masks os) (sub (runesOf s) e Y)) e (Y - e) ∧ Aft wo wr') (fun v _ => Y - (intOf v).toNat)
        case atStart => exact ⟨X + 1, Nat.le_refl _, hXY, rfl, rfl, Aft.refl _⟩
        case round =>
          obtain ⟨e, he1, he2, rfl, hcut, hao⟩ := hrel
          have HCU := Lib.hid hcut
          have g2' := hao.cell g2
          have c0' := hao.cell c0
          have c1' := hao.cell c1
          have c2' := hao.cell c2
          have heY : (e : Int) ≤ (Y : Int) := by omega
          have hYC : (Y : Int) ≤ (C : Int) := by omega
          have hwk : IntKind.i64.wrap (k : Int) = (k : Int) := wrap_small _ (by omega) (by omega)
          have hsf : Aft wo wr.drew := Below.drew hao
          have hCe : ¬ C = e := by omega
          have hYw : IntKind.i64.wrap (Y : Int) = (Y : Int) := wrap_small _ (by omega) (by omega)
          clear hcut
          have hon0 : ∀ w0, Aft wo w0 → Calls Tryd.prog 41 #[.slice A n c, pV B m d L R, .slice (some ⟨RB, e, none⟩) (Y - e) (C - e)] w0 (fun e' w' => e' = .returned (.bool (onB ls (masks os) (sub (runesOf s) e Y))) ∧ (Aft wo w' ∧ w'.cell? ⟨w.heap.size, 0, none⟩ = some (.slice B m d) ∧ w'.cell? ⟨w.heap.size, 1, none⟩ = some (.int .i64 L) ∧ w'.cell? ⟨w.heap.size, 2, none⟩ = some (.int .i64 R) ∧ w'.cell? ⟨b1, off1 + k, none⟩ = some (.int .i64 Y))) := fun w0 a => by
            have h := refon_any A n c ls B m d os L R (some ⟨RB, e, none⟩) (Y - e) (C - e) (sub (runesOf s) e Y) w0 (ha.aft (haf.trans a)) (hb.aft (haf.trans a)) ((HRR.out.rr.aft a).sub he2 (by omega)) (by omega)
            exact h.mono fun _ _ z => ⟨z.1, a.trans z.2, (a.trans z.2).cell c0, (a.trans z.2).cell c1, (a.trans z.2).cell c2, (a.trans z.2).cell g2⟩
          cases hon : onB ls (masks os) (sub (runesOf s) e Y)
          · rw [hon] at hon0
            have HCN := Lib.hid (cut_no (ls := ls) (m := masks os) (rs := runesOf s) he2 hon)
            clear hon
            go_wp2
            refine wp_region_held_drew (S := fun w' => Aft wo w' ∧ w'.cell? ⟨w.heap.size, 0, none⟩ = some (.slice B m d) ∧ w'.cell? ⟨w.heap.size, 1, none⟩ = some (.int .i64 L) ∧ w'.cell? ⟨w.heap.size, 2, none⟩ = some (.int .i64 R) ∧ w'.cell? ⟨b1, off1 + k, none⟩ = some (.int .i64 Y)) (by kernel_rfl) (⟨hsf, c0', c1', c2', g2'⟩) (fun hHeld => ?_)
            refine take_on (i := 0) (v := ?v1) rfl (by kernel_rfl) (by kernel_rfl) (by kernel_rfl) (fun _ _ _ h => h) (by rfl) (by assumption) ?y1 ?_
            case y1 => (intro w hSw; (try dsimp only at hSw); go_simp; (try with_reducible rfl))
            try simp only [Act.put, List.setIfInBounds_toArray, List.set_cons_zero, List.set_cons_succ]
            refine take_on (i := 1) (v := ?v2) rfl (by kernel_rfl) (by kernel_rfl) (by kernel_rfl) (fun _ _ _ h => h) (by rfl) (by assumption) ?y2 ?_
            case y2 => (intro w hSw; (try dsimp only at hSw); go_simp; (try with_reducible rfl))
            try simp only [Act.put, List.setIfInBounds_toArray, List.set_cons_zero, List.set_cons_succ]
            refine take_on (i := 2) (v := ?v3) rfl (by kernel_rfl) (by kernel_rfl) (by kernel_rfl) (fun _ _ _ h => h) (by rfl) (by assumption) ?y3 ?_
            case y3 => (intro w hSw; (try dsimp only at hSw); go_simp; (try with_reducible rfl))
            try simp only [Act.put, List.setIfInBounds_toArray, List.set_cons_zero, List.set_cons_succ]
            refine take_on (i := 3) (v := ?v4) rfl (by kernel_rfl) (by kernel_rfl) (by kernel_rfl) (fun _ _ _ h => h) (by rfl) (by assumption) ?y4 ?_
            case y4 => (intro w hSw; (try dsimp only at hSw); go_simp; (try with_reducible rfl))
            try simp only [Act.put, List.setIfInBounds_toArray, List.set_cons_zero, List.set_cons_succ]
            refine take_on (i := 4) (v := ?v5) rfl (by kernel_rfl) (by kernel_rfl) (by kernel_rfl) (fun _ _ _ h => h) (by rfl) (by assumption) ?y5 ?_
            case y5 => (intro w hSw; (try dsimp only at hSw); go_simp; (try with_reducible rfl))
            try simp only [Act.put, List.setIfInBounds_toArray, List.set_cons_zero, List.set_cons_succ]
            refine take_on (i := 5) (v := ?v6) rfl (by kernel_rfl) (by kernel_rfl) (by kernel_rfl) (fun _ _ _ h => h) (by rfl) (by assumption) ?y6 ?_
            case y6 => (intro w hSw; (try dsimp only at hSw); go_simp; (try with_reducible rfl))
            try simp only [Act.put, List.setIfInBounds_toArray, List.set_cons_zero, List.set_cons_succ]
            refine take_on (i := 6) (v := ?v7) rfl (by kernel_rfl) (by kernel_rfl) (by kernel_rfl) (fun _ _ _ h => h) (by rfl) (by assumption) ?y7 ?_
            case y7 => (intro w hSw; (try dsimp only at hSw); go_simp; (try with_reducible rfl))
            try simp only [Act.put, List.setIfInBounds_toArray, List.set_cons_zero, List.set_cons_succ]
            refine take_on (i := 7) (v := ?v8) rfl (by kernel_rfl) (by kernel_rfl) (by kernel_rfl) (fun _ _ _ h => h) (by rfl) (by assumption) ?y8 ?_
            case y8 => (intro w hSw; (try dsimp only at hSw); go_simp; (try with_reducible rfl))
            try simp only [Act.put, List.setIfInBounds_toArray, List.set_cons_zero, List.set_cons_succ]
            refine take_on (i := 8) (v := ?v9) rfl (by kernel_rfl) (by kernel_rfl) (by kernel_rfl) (fun _ _ _ h => h) (by rfl) (by assumption) ?y9 ?_
            case y9 => (intro w hSw; (try dsimp only at hSw); go_simp; (try with_reducible rfl))
            try simp only [Act.put, List.setIfInBounds_toArray, List.set_cons_zero, List.set_cons_succ]
            refine one_ready (i := 9) rfl (by kernel_rfl) (by rfl) (fun K hK => ?_)
            go_simp
            refine (hon0 _ hHeld.1).mono ?_
            rintro e' w7 ⟨rfl, A7, k0, k1, k2, k3⟩
            refine hK.out _ _ (⟨A7, k0, k1, k2, k3⟩) (fun hHeld => ?_)
            clear hK K
            try simp only [Act.put, List.setIfInBounds_toArray, List.set_cons_zero, List.set_cons_succ]
            refine take_on (i := 10) (v := ?v11) rfl (by kernel_rfl) (by kernel_rfl) (by kernel_rfl) (fun _ _ _ h => h) (by rfl) (by assumption) ?y11 ?_
            case y11 => (intro w hSw; (try dsimp only at hSw); go_simp; (try with_reducible rfl))
            try simp only [Act.put, List.setIfInBounds_toArray, List.set_cons_zero, List.set_cons_succ]
            refine wpAnyH_done (by kernel_rfl) ?_ _
            go_wp2
            go_roundw
            case rel => exact ⟨e + 1, by omega, HCN.out.1, by go_num, by rw [HCU.out, HCN.out.2], A7⟩
            case measure => have := HCN.out.1; simp [intOf]; omega
          · rw [hon] at hon0
            have HCN := Lib.hid (cut_yes (ls := ls) (m := masks os) (rs := runesOf s) hon)
            clear hon
            go_wp2
            refine wp_region_held_drew (S := fun w' => Aft wo w' ∧ w'.cell? ⟨w.heap.size, 0, none⟩ = some (.slice B m d) ∧ w'.cell? ⟨w.heap.size, 1, none⟩ = some (.int .i64 L) ∧ w'.cell? ⟨w.heap.size, 2, none⟩ = some (.int .i64 R) ∧ w'.cell? ⟨b1, off1 + k, none⟩ = some (.int .i64 Y)) (by kernel_rfl) (⟨hsf, c0', c1', c2', g2'⟩) (fun hHeld => ?_)
            refine take_on (i := 0) (v := ?v12) rfl (by kernel_rfl) (by kernel_rfl) (by kernel_rfl) (fun _ _ _ h => h) (by rfl) (by assumption) ?y12 ?_
            case y12 => (intro w hSw; (try dsimp only at hSw); go_simp; (try with_reducible rfl))
            try simp only [Act.put, List.setIfInBounds_toArray, List.set_cons_zero, List.set_cons_succ]
            refine take_on (i := 1) (v := ?v13) rfl (by kernel_rfl) (by kernel_rfl) (by kernel_rfl) (fun _ _ _ h => h) (by rfl) (by assumption) ?y13 ?_
            case y13 => (intro w hSw; (try dsimp only at hSw); go_simp; (try with_reducible rfl))
            try simp only [Act.put, List.setIfInBounds_toArray, List.set_cons_zero, List.set_cons_succ]
            refine take_on (i := 2) (v := ?v14) rfl (by kernel_rfl) (by kernel_rfl) (by kernel_rfl) (fun _ _ _ h => h) (by rfl) (by assumption) ?y14 ?_
            case y14 => (intro w hSw; (try dsimp only at hSw); go_simp; (try with_reducible rfl))
            try simp only [Act.put, List.setIfInBounds_toArray, List.set_cons_zero, List.set_cons_succ]
            refine take_on (i := 3) (v := ?v15) rfl (by kernel_rfl) (by kernel_rfl) (by kernel_rfl) (fun _ _ _ h => h) (by rfl) (by assumption) ?y15 ?_
            case y15 => (intro w hSw; (try dsimp only at hSw); go_simp; (try with_reducible rfl))
            try simp only [Act.put, List.setIfInBounds_toArray, List.set_cons_zero, List.set_cons_succ]
            refine take_on (i := 4) (v := ?v16) rfl (by kernel_rfl) (by kernel_rfl) (by kernel_rfl) (fun _ _ _ h => h) (by rfl) (by assumption) ?y16 ?_
            case y16 => (intro w hSw; (try dsimp only at hSw); go_simp; (try with_reducible rfl))
            try simp only [Act.put, List.setIfInBounds_toArray, List.set_cons_zero, List.set_cons_succ]
            refine take_on (i := 5) (v := ?v17) rfl (by kernel_rfl) (by kernel_rfl) (by kernel_rfl) (fun _ _ _ h => h) (by rfl) (by assumption) ?y17 ?_
            case y17 => (intro w hSw; (try dsimp only at hSw); go_simp; (try with_reducible rfl))
            try simp only [Act.put, List.setIfInBounds_toArray, List.set_cons_zero, List.set_cons_succ]
            refine take_on (i := 6) (v := ?v18) rfl (by kernel_rfl) (by kernel_rfl) (by kernel_rfl) (fun _ _ _ h => h) (by rfl) (by assumption) ?y18 ?_
            case y18 => (intro w hSw; (try dsimp only at hSw); go_simp; (try with_reducible rfl))
            try simp only [Act.put, List.setIfInBounds_toArray, List.set_cons_zero, List.set_cons_succ]
            refine take_on (i := 7) (v := ?v19) rfl (by kernel_rfl) (by kernel_rfl) (by kernel_rfl) (fun _ _ _ h => h) (by rfl) (by assumption) ?y19 ?_
            case y19 => (intro w hSw; (try dsimp only at hSw); go_simp; (try with_reducible rfl))
            try simp only [Act.put, List.setIfInBounds_toArray, List.set_cons_zero, List.set_cons_succ]
            refine take_on (i := 8) (v := ?v20) rfl (by kernel_rfl) (by kernel_rfl) (by kernel_rfl) (fun _ _ _ h => h) (by rfl) (by assumption) ?y20 ?_
            case y20 => (intro w hSw; (try dsimp only at hSw); go_simp; (try with_reducible rfl))
            try simp only [Act.put, List.setIfInBounds_toArray, List.set_cons_zero, List.set_cons_succ]
            refine one_ready (i := 9) rfl (by kernel_rfl) (by rfl) (fun K hK => ?_)
            go_simp
            refine (hon0 _ hHeld.1).mono ?_
            rintro e' w7 ⟨rfl, A7, k0, k1, k2, k3⟩
            refine hK.out _ _ (⟨A7, k0, k1, k2, k3⟩) (fun hHeld => ?_)
            clear hK K
            try simp only [Act.put, List.setIfInBounds_toArray, List.set_cons_zero, List.set_cons_succ]
            refine take_on (i := 10) (v := ?v22) rfl (by kernel_rfl) (by kernel_rfl) (by kernel_rfl) (fun _ _ _ h => h) (by rfl) (by assumption) ?y22 ?_
            case y22 => (intro w hSw; (try dsimp only at hSw); go_simp; (try with_reducible rfl))
            try simp only [Act.put, List.setIfInBounds_toArray, List.set_cons_zero, List.set_cons_succ]
            refine wpAnyH_done (by kernel_rfl) ?_ _
            have A8 := A7
            have O8 := Lib.hid (row_aft HO.out A8)
            have N8 := Lib.hid (row_aft HNN.out A8)
            have R8 := Lib.hid (show RunesAt w7 RB C (runesOf s) from row_aft HRR.out A8)
            have hs8 := (haf.trans A8).size
            have hs9 : w.heap.size + 1 ≤ w7.heap.size := by have h9 : w.heap.size < w7.heap.size := World.block_lt_of_cell? w7 _ k0; omega
            go_wp2_with (at_builtin; refine wpList_append_own_at _ rfl _ _ 30 rfl (w.heap.size + 1) 3 i0 _ 1 8 Tryd.underlying30 hi hz0 hz1 hz2 rfl (by decide) _ _ _ rfl (O8.out.alloc _) ⟨w7.heap.size, 0, none⟩ 1 1 [vI (e : Nat)] rfl rfl (one_val _ _ _ _ rfl) (oneI _) (by unfold maxLen; omega) (by omega) (by simp; omega) ?_; intro v' w9 own2 grow2 _ hblk)
            have hrel : ∀ V, v' = V → ∃ (k_1 : Nat) (sts_1 : List Nat), (k_1 ≤ nn ∨ nn = 0 ∧ k_1 = 1) ∧ 1 ≤ k_1 ∧ Value.int .i64 ((k : Int) + 1) = .int .i64 (k_1 : Nat) ∧ w9.ownsRow (w.heap.size + 1) 3 1 V sts_1.length ((natI sts_1).map vI) ∧ sts_1.length ≤ k_1 ∧ stP ls (masks os) (runesOf s) = sts_1 ++ begs ls (masks os) (runesOf s) (ns.drop (k_1 - 1)) ∧ (∀ a : Addr, some (⟨b1, off1, none⟩ : Addr) = some a → V.ownBlock ≠ some a.block) ∧ w9.ownsRow 0 3 1 (.slice (some ⟨b1, off1, none⟩) nn nc) nn ((natI ns).map vI) ∧ RunesAt w9 RB C (runesOf s) ∧ w9.cell? ⟨w.heap.size, 0, none⟩ = some (.slice B m d) ∧ w9.cell? ⟨w.heap.size, 1, none⟩ = some (.int .i64 L) ∧ w9.cell? ⟨w.heap.size, 2, none⟩ = some (.int .i64 R) ∧ Aft w w9 := by
              rintro V rfl
              refine ⟨k + 1, sts ++ [e], by omega, by omega, by simp, ?_, by simp; omega, ?_, ?_, ?_, ?_, ?_, ?_, ?_, ((haf.trans A8).alloc _).grown grow2 (fun k e => by have := (O8.out.lt k e).1; omega)⟩
              · rw [List.length_append, natI_append, List.map_append]
                exact own2
              · have h := HE.out
                rw [show k - 1 = q by rw [HQ.out]; rfl, HS.out, HCU.out, HCN.out, ← HQ.out] at h
                rw [h, List.append_assoc]
                rfl
              · intro a ha
                cases ha
                rcases hblk with h | h
                · rw [h]
                  exact HD.out _ rfl
                · rw [h]
                  intro h2
                  have := (N8.out.lt b1 rfl).2
                  simp at h2
                  omega
              · exact row_other (N8.out.alloc _) grow2 (fun r hr e => by cases hr; exact HD.out _ rfl e)
              · exact RunesAt.grown R8.out O8.out (by decide) grow2
              · exact grow2.cell (((Aft.refl _).alloc _).cell k0) (fun e => Nat.not_succ_le_self _ (O8.out.lt _ e.symm).1)
              · exact grow2.cell (((Aft.refl _).alloc _).cell k1) (fun e => Nat.not_succ_le_self _ (O8.out.lt _ e.symm).1)
              · exact grow2.cell (((Aft.refl _).alloc _).cell k2) (fun e => Nat.not_succ_le_self _ (O8.out.lt _ e.symm).1)
            have HRL := Lib.hid hrel
            clear hrel
            obtain ⟨g', cap', rfl⟩ := row_succ own2
            clear own2 grow2 hblk
            go_wp2
            go_roundw
            case rel => exact HRL.out _ rfl
            case measure => simp [intOf]; omega
      · have HZ := Lib.hid (begs_one (ls := ls) (ons := masks os) (rs := runesOf s) (ns := ns) (k := k - 1) (by rw [HL.out]; omega))
        have hki : ¬ (k : Int) < (nn : Int) := by omega
        obtain ⟨X3, c3, rfl, s3⟩ := Rw.of_row HO.out (natI_length _)
        have HS := Lib.hid s3
        clear s3
        go_wp2
        go_ret
        refine ⟨⟨_, _, _, rfl, ?_, fun a e => by have := (HO.out.lt a.block (by rw [e]; rfl)).1; omega⟩, haf⟩
        have h := HE.out
        rw [HZ.out, List.append_nil] at h
        rw [h]
        exact HS.out
end Go.Proofs.YtfjfgjncmliadaaDoor
