/-
  The reference's Classes and Vowel (which change nothing), Nuclei, fits, onset and Onset. Conditions: the slices hold the letters, masks and runes; a string has at most 1000000 bytes.
-/
import Derived.Test.YtfjfgjncmliadaaDoorSylRef
import Derived.IntWalk
namespace Go.Proofs.YtfjfgjncmliadaaDoor
open Go.RowKit Go.Maps
open AlphPlain

theorem row_other {w w' : World} {base size n : Nat} {e : TypeId} {v : Value} {l : List Value} {row : Option Nat} (h : w.ownsRow base e size v n l) (hg : w.grownBy w' row) (hne : ∀ r, v.ownBlock = some r → row ≠ some r) : w'.ownsRow base e size v n l := by
  refine ⟨h.1, ?_⟩
  rcases h.2 with k | ⟨g, cap, cur, rfl, hb, hc, r⟩
  · exact .inl k
  · exact .inr ⟨g, cap, cur, rfl, hb, (hg.block g (Array.getElem?_eq_some_iff.1 hc).1 (fun e => hne g rfl e.symm)).trans hc, r⟩
theorem row_apart {w : World} {b1 b2 s1 s2 n1 n2 : Nat} {e1 e2 : TypeId} {v1 v2 : Value} {l1 l2 : List Value} (h1 : w.ownsRow b1 e1 s1 v1 n1 l1) (h2 : w.ownsRow b2 e2 s2 v2 n2 l2) (he : e1 ≠ e2) : ∀ r, v1.ownBlock = some r → v2.ownBlock ≠ some r := by
  intro r k1 k2
  rcases h1.2 with ⟨rfl, _⟩ | ⟨g1, _, _, rfl, _, g1', _⟩
  · cases k1
  · rcases h2.2 with ⟨rfl, _⟩ | ⟨g2, _, _, rfl, _, g2', _⟩
    · cases k2
    · cases k1
      cases k2
      rw [g1'] at g2'
      cases g2'
      exact he rfl
theorem row_form {w : World} {base size n : Nat} {e : TypeId} {v : Value} {l : List Value} (h : w.ownsRow base e size v n l) : (v = .slice none 0 0 ∧ n = 0) ∨ ∃ g cap, v = .slice (some ⟨g, 0, none⟩) n cap := by
  rcases h.2 with k | ⟨g, cap, _, hv, _⟩
  · exact .inl k
  · exact .inr ⟨g, cap, hv⟩
/-- The runes rs lie in block R, a block of their type. -/
abbrev RunesAt (w : World) (R C : Nat) (rs : List Int) : Prop := w.ownsRow 0 21 1 (.slice (some ⟨R, 0, none⟩) rs.length C) rs.length (runV rs)
theorem conv_own (s : ByteArray) (w : World) (hs : s.size ≤ 1000000) : RunesAt (convW s w) w.heap.size (convC s w) (runesOf s) := by
  have hle := (conv_rr s w).le
  have hcc := conv_cap s w hs
  refine ⟨by simp [runV], .inr ⟨w.heap.size, convC s w, _, rfl, Nat.zero_le _, World.alloc_heap_new w.drew _, hle, by unfold maxLen; omega, ?_, ?_⟩⟩
  · rw [Array.size_append, Array.size_replicate, runes_size]
    omega
  · rw [runesFrom_eq]
    simp only [Array.toList_append, Array.empty_append, Nat.mul_one]
    have hl : (runV (runesOf s)).length = (runesOf s).length := by simp [runV]
    show (runV (runesOf s) ++ _).take (runesOf s).length = runV (runesOf s)
    rw [← hl, List.take_left']
    rfl
theorem RunesAt.rr {w : World} {R C : Nat} {rs : List Int} (h : RunesAt w R C rs) : Rr w (some ⟨R, 0, none⟩) rs.length C rs := by
  obtain ⟨A, c, e, h1⟩ := Rr.of_row h rfl
  cases e
  exact h1
theorem RunesAt.grown {w w' : World} {R C base n size : Nat} {rs : List Int} {e : TypeId} {v : Value} {l : List Value} {o : Obj} (h : RunesAt w R C rs) (hr : w.ownsRow base e size v n l) (he : 21 ≠ e) (hg : (w.alloc o).grownBy w' v.ownBlock) : RunesAt w' R C rs :=
  row_other (World.ownsRow.alloc h o) hg (row_apart (World.ownsRow.alloc h o) (hr.alloc o) he)

theorem refClassesP_any (A : Option Addr) (n c : Nat) (ls : List Lt) (r : Int) (w : World) (ha : Ll w A n c ls) :
    Calls Tryd.prog 55 #[.slice A n c, .int .i32 r] w (fun e w' => e = .returned (.int .u32 (clsOf ls r)) ∧ w = w') := by
  have hn := ha.max
  have hnc := ha.le
  have h1 := refIndexP_any A n c ls r w ha
  cases hh : AlphPlain.has ls r
  · rw [idxI_not hh] at h1
    go_enter Tryd.func55, Tryd.ntmps55
    go_wp2_with fail
    refine h1.mono ?_
    rintro e w1 ⟨rfl, rfl⟩
    clear h1
    go_wp2
    go_ret
    exact ⟨by simp [clsOf, hh], rfl⟩
  · rw [idxI_has hh] at h1
    obtain ⟨l, hl, _⟩ := pos_get hh
    have hlt : pos ls r < n := by have := (List.getElem?_eq_some_iff.1 hl).1; have := ha.len; omega
    obtain ⟨b, off, l', rfl, hf, g1, g2⟩ := ha.at_ hlt
    obtain rfl : l = l' := by rw [hl] at hf; exact Option.some.inj hf
    have HC := Lib.hid (show clsOf ls r = l.2 by simp [clsOf, hh, List.getD, hl])
    generalize pos ls r = p at *
    go_enter Tryd.func55, Tryd.ntmps55
    go_wp2_with fail
    refine h1.mono ?_
    rintro e w1 ⟨rfl, rfl⟩
    clear h1
    go_wp2
    go_ret
    exact ⟨by rw [HC.out]; rfl, rfl⟩

theorem vowB_not {ls : List Lt} {r : Int} (h : AlphPlain.has ls r = false) : vowB ls r = false := by
  have hc : clsOf ls r = 0 := by simp [clsOf, h]
  unfold vowB
  rw [hc]
  rcases and_one (c := 0) (by omega) with e | e
  · rw [e]; rfl
  · exfalso
    rw [u32_and 0 1 (by omega) (by omega) (by omega) (by omega)] at e
    simp at e
theorem vowB_has {ls : List Lt} (hw : ∀ l ∈ ls, (Lit.int .i32 l.1).wf = true ∧ (Lit.int .u32 l.2).wf = true) (r : Int) : decide (bits .and .u32 (clsOf ls r) 1 = 1) = vowB ls r := by
  rcases and_one (cls_bits hw r) with e | e <;> simp [vowB, e]

theorem refVowel_any (A : Option Addr) (n c : Nat) (ls : List Lt) (r : Int) (w : World) (ha : Ll w A n c ls) :
    Calls Tryd.prog 39 #[.slice A n c, .int .i32 r] w (fun e w' => e = .returned (.bool (vowB ls r)) ∧ w = w') := by
  have h1 := refIndexP_any A n c ls r w ha
  cases hh : AlphPlain.has ls r
  · rw [idxI_not hh] at h1
    have HV := Lib.hid (vowB_not hh)
    clear hh
    go_enter Tryd.func39, Tryd.ntmps39
    go_wp2_with fail
    refine h1.mono ?_
    rintro e w1 ⟨rfl, rfl⟩
    clear h1
    go_wp2
    go_ret
    exact ⟨by rw [HV.out]; rfl, rfl⟩
  · rw [idxI_has hh] at h1
    have h2 := refClassesP_any A n c ls r w ha
    have HV := Lib.hid (vowB_has ha.wf r)
    have h3 := refHas_any (clsOf ls r) 1
    generalize pos ls r = p at *
    generalize decide (bits .and .u32 (clsOf ls r) 1 = 1) = q at *
    generalize clsOf ls r = c1 at *
    clear hh
    have hp0 : (0 : Int) ≤ (p : Int) := by omega
    go_enter Tryd.func39, Tryd.ntmps39
    go_wp2_with fail
    refine h1.mono ?_
    rintro e w1 ⟨rfl, rfl⟩
    clear h1
    go_wp2_with fail
    refine h2.mono ?_
    rintro e w1 ⟨rfl, rfl⟩
    clear h2
    go_wp2_with fail
    refine (h3 _).mono ?_
    rintro e w1 ⟨rfl, rfl⟩
    clear h3
    go_wp2
    go_ret
    exact ⟨by rw [← HV.out]; first | rfl | simp, rfl⟩

set_option maxRecDepth 100000 in
set_option maxHeartbeats 1600000 in
theorem refNucleiR_any (A : Option Addr) (n c : Nat) (ls : List Lt) (s : ByteArray) (w : World) (ha : Ll w A n c ls) (hs : s.size ≤ 1000000) :
    Calls Tryd.prog 20 #[.slice A n c, .string s] w (fun e w' => ∃ v, e = .returned v ∧ w'.ownsRow w.heap.size 3 1 v (nuc ls (runesOf s) 0).length ((natI (nuc ls (runesOf s) 0)).map vI) ∧ Aft w w') := by
  obtain ⟨i0, hi, hz0, hz1, hz2⟩ := info_parts Tryd.infoI
  have hrl : (runesOf s).length ≤ 1000000 := by have := size_runesFrom s s.size 0 #[]; rw [runes_size] at this; simp at this; omega
  have A0 : Aft w (w.alloc (.cells #[] 3)) := (Aft.refl w).alloc _
  have own0 : (w.alloc (.cells #[] 3)).ownsRow w.heap.size 3 1 (.slice (some ⟨w.heap.size, 0, none⟩) 0 0) 0 [] := World.ownsRow_lit w #[] 0 (Nat.le_refl _) (by unfold maxLen; omega) rfl
  have hcv := conv_run s (by omega) (w.alloc (.cells #[] 3))
  have A1 := conv_aft s (w.alloc (.cells #[] 3))
  have HR := Lib.hid (conv_own s (w.alloc (.cells #[] 3)) hs)
  have hcc := conv_cap s (w.alloc (.cells #[] 3)) hs
  have hrC := (conv_rr s (w.alloc (.cells #[] 3))).le
  have own1 := Lib.hid (row_aft own0 A1)
  have HWF := Lib.hid (runes_wf s s.size 0)
  generalize convW s (w.alloc (.cells #[] 3)) = w1 at *
  generalize convC s (w.alloc (.cells #[] 3)) = C at *
  generalize (w.alloc (.cells #[] 3)).heap.size = RB at *
  have hrse : runesL s s.size 0 = runesOf s := rfl
  rw [hrse] at HWF
  clear hrse
  generalize runesOf s = rs at *
  have B1 := A0.trans A1
  have hs1 := B1.size
  clear own0
  go_enter Tryd.func20, Tryd.ntmps20
  go_wp2
  go_loopw [5, 7] (fun v i wr => ∃ (k : Nat), k ≤ rs.length ∧ i = .int .i64 (k : Nat) ∧ wr.ownsRow w.heap.size 3 1 v (nuc ls (rs.take k) 0).length ((natI (nuc ls (rs.take k) 0)).map vI) ∧ RunesAt wr RB C rs ∧ Aft w wr) (fun _ i _ => rs.length - (intOf i).toNat)
  case atStart => exact ⟨0, Nat.zero_le _, rfl, by simpa [nuc, natI] using own1.out, HR.out, B1⟩
  case round =>
    obtain ⟨k, hk, rfl, own, hra, haf⟩ := hrel
    have HO := Lib.hid own
    have HRA := Lib.hid hra
    have hol : (nuc ls (rs.take k) 0).length ≤ k := by have := nuc_len ls (rs.take k) 0; rw [List.length_take] at this; omega
    clear own hra
    by_cases hlt : k < rs.length
    · obtain ⟨b, off, r, hA, hr, g1⟩ := HRA.out.rr.at_ hlt
      cases hA
      rw [Nat.zero_add] at g1
      have hcall := refVowel_any A n c ls r wr (ha.aft haf)
      have HSN := Lib.hid (nuc_snoc ls (rs.take k) r 0)
      have HTK := Lib.hid (take_next hr)
      have HLT := Lib.hid (show (rs.take k).length = k by rw [List.length_take]; omega)
      have hki : (k : Int) < (rs.length : Int) := by omega
      have hs8 := haf.size
      clear hr
      cases hh : vowB ls r
      · rw [hh] at hcall
        have HH := Lib.hid hh
        clear hh
        go_wp2_with fail
        refine hcall.mono ?_
        rintro e w2 ⟨rfl, rfl⟩
        clear hcall
        go_wp2
        go_roundw
        case rel => exact ⟨k + 1, by omega, by go_num, by rw [HTK.out, HSN.out, HH.out]; simpa using HO.out, HRA.out, haf⟩
        case measure => simp [intOf]; omega
      · rw [hh] at hcall
        have HH := Lib.hid hh
        clear hh
        go_wp2_with fail
        refine hcall.mono ?_
        rintro e w2 ⟨rfl, rfl⟩
        clear hcall
        go_wp2_with (at_builtin; refine wpList_append_own _ rfl _ _ 30 rfl w.heap.size 3 i0 _ 1 8 Tryd.underlying30 hi hz0 hz1 hz2 rfl (by decide) _ _ _ rfl (HO.out.alloc _) ⟨wr.heap.size, 0, none⟩ 1 1 [vI (k : Nat)] rfl rfl (one_val _ _ _ _ rfl) (oneI _) (by unfold maxLen; omega) (by omega) (by simp; omega) ?_; intro v' w3 own2 grow2 _)
        have A3 : Aft w w3 := (haf.alloc _).grown grow2 (fun k e => (HO.out.lt k e).1)
        have R3 := HRA.out.grown HO.out (by decide) grow2
        have hrel : ∀ V, v' = V → w3.ownsRow w.heap.size 3 1 V (nuc ls (rs.take (k + 1)) 0).length ((natI (nuc ls (rs.take (k + 1)) 0)).map vI) := by
          rintro V rfl
          rw [HTK.out, HSN.out, HH.out, HLT.out]
          simpa [natI] using own2
        have HRL := Lib.hid hrel
        have HR3 := Lib.hid R3
        clear hrel R3
        obtain ⟨g', cap', rfl⟩ := row_succ own2
        clear own2 grow2
        go_wp2
        go_roundw
        case rel => exact ⟨k + 1, by omega, by go_num, HRL.out _ rfl, HR3.out, A3⟩
        case measure => simp [intOf]; omega
    · obtain rfl : k = rs.length := by omega
      have hO := HO.out
      rw [List.take_of_length_le (Nat.le_refl _)] at hO
      have HS := Lib.hid hO
      have hf := row_form hO
      clear hO
      rcases hf with ⟨rfl, _⟩ | ⟨g, cap, rfl⟩
      · go_wp2
        go_ret
        exact ⟨_, rfl, HS.out, haf⟩
      · go_wp2
        go_ret
        exact ⟨_, rfl, HS.out, haf⟩

theorem refNuclei_any (A : Option Addr) (n c : Nat) (ls : List Lt) (s : ByteArray) (w : World) (ha : Ll w A n c ls) (hs : s.size ≤ 1000000) :
    Calls Tryd.prog 20 #[.slice A n c, .string s] w (IsPost w (natI (nuc ls (runesOf s) 0))) :=
  (refNucleiR_any A n c ls s w ha hs).mono fun e w' ⟨v, e1, h, a⟩ => by
    obtain ⟨X, cx, rfl, r⟩ := Rw.of_row (enc := vI) (l := natI (nuc ls (runesOf s) 0)) h (natI_length _)
    exact ⟨⟨_, _, _, e1, r⟩, a⟩

set_option maxRecDepth 100000 in
set_option maxHeartbeats 1600000 in
theorem refFits_any (A : Option Addr) (n c : Nat) (ls : List Lt) (B : Option Addr) (m d : Nat) (ms : List Int) (C : Option Addr) (k e : Nat) (rs : List Int) (w : World) (ha : Ll w A n c ls) (hb : Rw vU w B m d ms) (hc : Rr w C k e rs) (he : e ≤ 9223372036854775807) :
    Calls Tryd.prog 60 #[.slice A n c, .slice B m d, .slice C k e] w (BoolPost w (fitB ls ms rs)) := by
  have hmd := hb.le
  have hdm := hb.cmax
  have hke := hc.le
  have hlb := Lib.hid hb.len
  have hlc := Lib.hid hc.len
  by_cases hnm : m = k
  · subst hnm
    go_enter Tryd.func60, Tryd.ntmps60
    go_wp2
    go_loopw [7] (fun i wr => ∃ j : Nat, j ≤ m ∧ i = .int .i64 (j : Nat) ∧ fitB ls ms rs = fitB ls (ms.drop j) (rs.drop j) ∧ Aft w wr) (fun i _ => m - (intOf i).toNat)
    case atStart => exact ⟨0, Nat.zero_le _, rfl, rfl, Aft.refl _⟩
    case round =>
      obtain ⟨j, hj, rfl, he, haf⟩ := hrel
      have HE := Lib.hid he
      clear he
      by_cases hlt : j < m
      · obtain ⟨b, off, x, rfl, hx, g1⟩ := hb.at_ hlt
        obtain ⟨b2, off2, r, rfl, hr, g2⟩ := hc.at_ hlt
        have c1 := haf.cell g1
        have c2 := haf.cell g2
        have HS := Lib.hid (fitB_step (ls := ls) hx hr)
        have hji : (j : Int) < (m : Int) := by omega
        have hwk : IntKind.i64.wrap (j : Int) = (j : Int) := wrap_small _ (by omega) (by omega)
        have hI : ∀ w0, Aft w w0 → Calls Tryd.prog 53 #[.slice A n c, .int .i32 r] w0 (fun e w' => e = .returned (.int .i64 (idxI ls r)) ∧ w' = w0) := fun w0 a => (refIndexP_any A n c ls r w0 (ha.aft a)).mono fun _ _ z => ⟨z.1, z.2.symm⟩
        have hC : ∀ w0, Aft w w0 → Calls Tryd.prog 55 #[.slice A n c, .int .i32 r] w0 (fun e w' => e = .returned (.int .u32 (clsOf ls r)) ∧ w' = w0) := fun w0 a => (refClassesP_any A n c ls r w0 (ha.aft a)).mono fun _ _ z => ⟨z.1, z.2.symm⟩
        have hH : ∀ w0, Calls Tryd.prog 54 #[.int .u32 (clsOf ls r), .int .u32 x] w0 (fun e w' => e = .returned (.bool (decide (bits .and .u32 (clsOf ls r) x = x))) ∧ w' = w0) := fun w0 => (refHas_any _ _ w0).mono fun _ _ z => ⟨z.1, z.2.symm⟩
        have HV := Lib.hid (show hitB ls x r = (AlphPlain.has ls r && decide (bits .and .u32 (clsOf ls r) x = x)) from rfl)
        clear hx hr g1 g2
        cases hh : AlphPlain.has ls r
        · rw [idxI_not hh] at hI
          rw [hh] at HV
          clear hC hH hh
          go_wp2
          go_quiet ((go_at_call 53; exact Calls.quiet_of_same (hI _ (haf.drewN _))))
          go_wp2
          go_ret
          exact ⟨by rw [HE.out, HS.out, HV.out]; rfl, haf.drewN _⟩
        · rw [idxI_has hh] at hI
          rw [hh] at HV
          generalize decide (bits .and .u32 (clsOf ls r) x = x) = q at *
          generalize clsOf ls r = cl at *
          generalize pos ls r = po at *
          have hp0 : ¬ (po : Int) < 0 := by omega
          clear hh
          cases q
          · go_wp2
            go_quiet ((first | (go_at_call 53; exact Calls.quiet_of_same (hI _ (haf.drewN _))) | (go_at_call 55; exact Calls.quiet_of_same (hC _ (haf.drewN _))) | (go_at_call 54; exact Calls.quiet_of_same (hH _))))
            go_wp2
            go_ret
            exact ⟨by rw [HE.out, HS.out, HV.out]; rfl, haf.drewN _⟩
          · go_wp2
            go_quiet ((first | (go_at_call 53; exact Calls.quiet_of_same (hI _ (haf.drewN _))) | (go_at_call 55; exact Calls.quiet_of_same (hC _ (haf.drewN _))) | (go_at_call 54; exact Calls.quiet_of_same (hH _))))
            go_wp2
            go_roundw
            case rel => exact ⟨j + 1, by omega, by go_num, by rw [HE.out, HS.out, HV.out]; rfl, haf.drewN _⟩
            case measure => simp [intOf]; omega
      · obtain rfl : j = m := by omega
        have HF := Lib.hid (fitB_end (ls := ls) hlb.out hlc.out)
        go_wp2
        go_ret
        exact ⟨by rw [HE.out, HF.out]; rfl, haf⟩
  · have hnm' : ¬ (m : Int) = (k : Int) := by omega
    have HF := Lib.hid (fitB_len (ls := ls) (show ms.length ≠ rs.length by rw [hlb.out, hlc.out]; exact hnm))
    go_enter Tryd.func60, Tryd.ntmps60
    go_wp2
    go_ret
    exact ⟨by rw [HF.out]; rfl, Aft.refl _⟩

theorem onB_yes {ls : List Lt} {os : List Mk} {rs : List Int} {k : Nat} {x : Mk} (h : os[k]? = some x) (hf : fitB ls x.ms rs = true) : onB ls (masks os) rs = true := by
  have : (masks os).any (fun ms => fitB ls ms rs) = true := by
    rw [List.any_eq_true]
    exact ⟨x.ms, List.mem_map.2 ⟨x, List.mem_of_getElem? h, rfl⟩, hf⟩
  unfold onB
  rw [this]
  simp
theorem onB_end {ls : List Lt} {os : List Mk} {rs : List Int} {n : Nat} (hn : os.length = n) (h : ∀ j x, j < n → os[j]? = some x → fitB ls x.ms rs = false) : onB ls (masks os) rs = decide (rs.length = 0) := by
  have : (masks os).any (fun ms => fitB ls ms rs) = false := by
    rw [List.any_eq_false]
    intro ms hm
    obtain ⟨x, hx, rfl⟩ := List.mem_map.1 hm
    obtain ⟨j, hj⟩ := List.getElem?_of_mem hx
    rw [h j x (by have := (List.getElem?_eq_some_iff.1 hj).1; omega) hj]
    simp
  unfold onB
  rw [this]
  simp

set_option maxRecDepth 100000 in
set_option maxHeartbeats 1600000 in
theorem refon_any (A : Option Addr) (n c : Nat) (ls : List Lt) (B : Option Addr) (m d : Nat) (os : List Mk) (L R : Int) (C : Option Addr) (k e : Nat) (rs : List Int) (w : World) (ha : Ll w A n c ls) (hb : Ons w B m d os) (hc : Rr w C k e rs) (he : e ≤ 9223372036854775807) :
    Calls Tryd.prog 41 #[.slice A n c, pV B m d L R, .slice C k e] w (BoolPost w (onB ls (masks os) rs)) := by
  have AL : Aft w (w.alloc (.cells #[.slice B m d, .int .i64 L, .int .i64 R] 24)) := (Aft.refl w).alloc _
  obtain ⟨t0, t1, t2⟩ := three_cells w (.slice B m d) (.int .i64 L) (.int .i64 R) 24
  have hle := hb.row.le
  have hcm := hb.row.cmax
  have hke := hc.le
  have hlen := Lib.hid hb.row.len
  have hlc := Lib.hid hc.len
  generalize hw0 : w.alloc (.cells #[.slice B m d, .int .i64 L, .int .i64 R] 24) = w0 at *
  have HW0 := Lib.hid hw0
  clear hw0
  go_enter Tryd.func41, Tryd.ntmps41
  go_wp2
  rw [HW0.out]
  go_loopw [7] (fun i wr => ∃ j, j ≤ m ∧ i = .int .i64 (j : Nat) ∧ (∀ q x, q < j → os[q]? = some x → fitB ls x.ms rs = false) ∧ Aft w0 wr) (fun i _ => m - (intOf i).toNat)
  case atStart => exact ⟨0, Nat.zero_le _, rfl, fun q x h => by omega, Aft.refl _⟩
  case round =>
    obtain ⟨j, hj, rfl, he2, haf⟩ := hrel
    have HE := Lib.hid he2
    have u0 := haf.cell t0
    clear he2
    by_cases hlt : j < m
    · obtain ⟨b, off, x, rfl, hx, g1⟩ := hb.row.at_ hlt
      have g2 := (AL.trans haf).cell g1
      dsimp only [Mk.enc] at g2
      have hcall := refFits_any A n c ls x.a x.n x.c x.ms C k e rs wr (ha.aft (AL.trans haf)) ((hb.each x (List.mem_of_getElem? hx)).aft (AL.trans haf)) (hc.aft (AL.trans haf)) he
      have HX := Lib.hid hx
      have hji : (j : Int) < (m : Int) := by omega
      clear hx g1
      cases hh : fitB ls x.ms rs
      · rw [hh] at hcall
        have HH := Lib.hid hh
        clear hh
        go_wp2_with fail
        refine hcall.mono ?_
        rintro e' w2 ⟨rfl, A2⟩
        clear hcall
        go_wp2
        go_roundw
        case rel =>
          refine ⟨j + 1, by omega, by go_num, fun q y hq hy => ?_, haf.trans A2⟩
          by_cases eq : q = j
          · subst eq
            rw [HX.out] at hy
            cases hy
            exact HH.out
          · exact HE.out q y (by omega) hy
        case measure => simp [intOf]; omega
      · rw [hh] at hcall
        have HB := Lib.hid (onB_yes HX.out hh)
        clear hh
        go_wp2_with fail
        refine hcall.mono ?_
        rintro e' w2 ⟨rfl, A2⟩
        clear hcall
        go_wp2
        go_ret
        exact ⟨by rw [HB.out]; rfl, (AL.trans haf).trans A2⟩
    · obtain rfl : j = m := by omega
      have HV := Lib.hid ((onB_end hlen.out HE.out).trans (by rw [hlc.out]))
      clear HE
      by_cases h0 : k = 0
      · rw [decide_eq_true h0] at HV
        have h0' : (k : Int) = 0 := by omega
        subst h0
        go_wp2
        go_ret
        exact ⟨by rw [HV.out]; first | rfl | simp, AL.trans haf⟩
      · rw [decide_eq_false h0] at HV
        have h0' : ¬ (k : Int) = 0 := by omega
        go_wp2
        go_ret
        exact ⟨by rw [HV.out]; first | rfl | (simp; done) | (simp; omega), AL.trans haf⟩

set_option maxRecDepth 100000 in
set_option maxHeartbeats 1600000 in
theorem refOnset_any (A : Option Addr) (n c : Nat) (ls : List Lt) (B : Option Addr) (m d : Nat) (os : List Mk) (L R : Int) (s : ByteArray) (w : World) (ha : Ll w A n c ls) (hb : Ons w B m d os) (hs : s.size ≤ 1000000) :
    Calls Tryd.prog 22 #[.slice A n c, pV B m d L R, .string s] w (BoolPost w (onB ls (masks os) (runesOf s))) := by
  have AL : Aft w (w.alloc (.cells #[.slice B m d, .int .i64 L, .int .i64 R] 24)) := (Aft.refl w).alloc _
  have tc := three_cells w (.slice B m d) (.int .i64 L) (.int .i64 R) 24
  have hcv := conv_run s (by omega) (w.alloc (.cells #[.slice B m d, .int .i64 L, .int .i64 R] 24))
  have A2 := conv_aft s (w.alloc (.cells #[.slice B m d, .int .i64 L, .int .i64 R] 24))
  have H2 := Lib.hid (refon_any A n c ls B m d os L R _ _ _ (runesOf s) _ (ha.aft (AL.trans A2)) (hb.aft (AL.trans A2)) (conv_rr s (w.alloc (.cells #[.slice B m d, .int .i64 L, .int .i64 R] 24))) (conv_cap s (w.alloc (.cells #[.slice B m d, .int .i64 L, .int .i64 R] 24)) hs))
  clear ha hb
  generalize convW s (w.alloc (.cells #[.slice B m d, .int .i64 L, .int .i64 R] 24)) = w1 at *
  generalize convC s (w.alloc (.cells #[.slice B m d, .int .i64 L, .int .i64 R] 24)) = C at *
  generalize (w.alloc (.cells #[.slice B m d, .int .i64 L, .int .i64 R] 24)).heap.size = RB at *
  go_enter Tryd.func22, Tryd.ntmps22
  go_wp2_with fail
  refine H2.out.mono ?_
  rintro e w2 ⟨rfl, A3⟩
  go_wp2
  go_ret
  exact ⟨rfl, (AL.trans A2).trans A3⟩
end Go.Proofs.YtfjfgjncmliadaaDoor
