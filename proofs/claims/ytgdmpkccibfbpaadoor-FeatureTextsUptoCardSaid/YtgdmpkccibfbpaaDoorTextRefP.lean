/-
  The reference's Parse returns the valid record with a text, or false. Condition: the text is of at most 2^25 bytes.
-/
import Derived.Test.YtgdmpkccibfbpaaDoorTextRef
import Derived.Test.YtgdmpkccibfbpaaDoorTextParse
import Derived.Test.YtgdmpkccibfbpaaDoorFeatRefValid
import Derived.Test.YtgdmpkccibfbpaaDoorRegion
namespace Go.Proofs.YtgdmpkccibfbpaaDoor
open Go.RowKit
open FeatPlain

def RefPost (w : World) (r : Option (List Ft)) (e : Ending) (w' : World) : Prop :=
  Aft w w' ∧ match r with
  | none => e = .returned (.tuple #[.slice none 0 0, .bool false])
  | some l => ∃ A n c, e = .returned (.tuple #[.slice A n c, .bool true]) ∧ Sl w' A n c l

/-- Where the loop stands: the parts ps are read, at is where the next one begins. -/
def At (s : Bt) (at_ : Nat) (ps : List Bt) : Prop := (at_ ≤ s.length ∧ parts s = ps ++ parts (s.drop at_)) ∨ (at_ = s.length + 1 ∧ parts s = ps)

theorem res_long {s : Bt} {ps q : List Bt} {l : List Ft} (h0 : s ≠ []) (hp : parts s = ps ++ q) (hl : feats ps = some l) (h8 : 8 < l.length) : res s = none := by
  cases hf : feats (parts s) with
  | none => exact res_bad h0 hf
  | some L =>
    refine res_wrong h0 hf (valid_long ?_)
    rw [feats_len hf, hp, List.length_append, ← feats_len hl]
    omega

/-- The part that begins at 'at', and what is behind it. -/
theorem at_part {s : Bt} {at_ : Nat} {ps : List Bt} (h : at_ ≤ s.length) (hp : parts s = ps ++ parts (s.drop at_)) :
    ∃ p, p = (s.drop at_).take (upTo 32 (s.drop at_)) ∧ At s (at_ + upTo 32 (s.drop at_) + 1) (ps ++ [p]) ∧ (∃ q, parts s = ps ++ p :: q) := by
  refine ⟨_, rfl, ?_⟩
  by_cases hlt : upTo 32 (s.drop at_) < (s.drop at_).length
  · obtain ⟨h1, h2⟩ := upTo_split hlt
    have h3 : parts (s.drop at_) = (s.drop at_).take (upTo 32 (s.drop at_)) :: parts (s.drop (at_ + upTo 32 (s.drop at_) + 1)) := by
      conv => lhs; rw [h1]
      rw [parts_cons _ h2, List.drop_drop]
      rfl
    rw [List.length_drop] at hlt
    refine ⟨.inl ⟨by omega, ?_⟩, _, by rw [hp, h3]⟩
    rw [hp, h3]; simp
  · have h1 := upTo_none hlt
    have h2 := upTo_le 32 (s.drop at_)
    have h3 : (s.drop at_).take (upTo 32 (s.drop at_)) = s.drop at_ := List.take_of_length_le (by omega)
    rw [List.length_drop] at hlt h2
    rw [h3]
    refine ⟨.inr ⟨by omega, ?_⟩, [], ?_⟩
    · rw [hp, parts_none h1]
    · rw [hp, parts_none h1]

/-- The feature of that part. -/
theorem at_feat {t : Bt} (h : upTo 61 t < upTo 32 t) : ftOf (t.take (upTo 32 t)) = some (ba (t.take (upTo 61 t)), ba ((t.drop (upTo 61 t + 1)).take (upTo 32 t - (upTo 61 t + 1)))) := by
  have hle := upTo_le 32 t
  obtain ⟨h1, h2⟩ := upTo_split (c := 61) (t := t) (by omega)
  generalize upTo 32 t = E at *
  generalize upTo 61 t = M at *
  have h3 : t.take E = t.take M ++ 61 :: (t.drop (M + 1)).take (E - (M + 1)) := by
    conv => lhs; rw [h1]
    rw [List.take_append, List.length_take, Nat.min_eq_left (by omega), List.take_take, Nat.min_eq_right (by omega), show E - M = (E - (M + 1)) + 1 from by omega, List.take_succ_cons]
  rw [ftOf, h3, cutB_some _ h2]
  rfl
theorem at_bad {t : Bt} (h : ¬ upTo 61 t < upTo 32 t) : ftOf (t.take (upTo 32 t)) = none := by
  rw [ftOf, cutB_none (upTo_not (by omega))]
  rfl
theorem ex_mid (s : ByteArray) (a b : Nat) : s.extract a b = ba ((s.data.toList.drop a).take (b - a)) := by
  rcases s with ⟨⟨l⟩⟩
  simp [ba, ByteArray.ext_iff, ByteArray.data_extract]
theorem mid_eq (L : Bt) (a m e : Nat) : (L.drop (a + m + 1)).take (a + e - (a + m + 1)) = ((L.drop a).drop (m + 1)).take (e - (m + 1)) := by
  rw [List.drop_drop, show a + (m + 1) = a + m + 1 from rfl, show a + e - (a + m + 1) = e - (m + 1) from by omega]

theorem one_cells' (w : World) (f : Ft) : ∀ j u, (flat [f])[j]? = some u → (w.drew.alloc (.cells #[.string f.1, .string f.2] 34)).cell? ((⟨w.heap.size, 0, none⟩ : Addr).add j) = some u := one_cells w.drew f
theorem row_drew {w : World} {base : Nat} {e : TypeId} {size : Nat} {v : Value} {n : Nat} {xs : List Value} (h : w.ownsRow base e size v n xs) : w.drew.ownsRow base e size v n xs := h

set_option maxRecDepth 100000 in
set_option maxHeartbeats 6400000 in
theorem refParse_any (s : ByteArray) (w : World) (hs : s.size ≤ 33554432) : Calls Tryd.prog 10 #[.string s] w (RefPost w (res s.data.toList)) := by
  obtain ⟨i0, hi, hz0, hz1, hz2⟩ := info_parts Tryd.infoF
  have hsl : s.data.toList.length = s.size := Array.length_toList
  have HSL := Lib.hid hsl
  have own0 : (w.alloc (.cells #[] 34)).ownsRow w.heap.size 34 2 (.slice (some ⟨w.heap.size, 0, none⟩) 0 0) 0 [] := World.ownsRow_lit w #[] 0 (Nat.le_refl _) (by unfold maxLen; omega) rfl
  have HO0 := Lib.hid own0
  have hAt0 : At s.data.toList 0 [] := .inl ⟨Nat.zero_le _, by simp⟩
  have HAT0 := Lib.hid hAt0
  clear own0 hAt0 hsl
  go_enter Tryd.func10, Tryd.ntmps10
  go_wp2
  go_loopw [4, 5] (fun v x wr => ∃ (at_ : Nat) (ps : List Bt) (l : List Ft) (a : Option Addr) (c : Nat), at_ ≤ s.size + 1 ∧ x = .int .i64 (at_ : Nat) ∧ v = .slice a l.length c ∧ At s.data.toList at_ ps ∧ feats ps = some l ∧ l.length ≤ 9 ∧ l.length ≤ c ∧ Sized l ∧ wr.ownsRow w.heap.size 34 2 (.slice a l.length c) l.length (flat l) ∧ Aft w wr ∧ (s.size = 0 → at_ = 0)) (fun _ x _ => s.size + 1 - (intOf x).toNat)
  case atStart => exact ⟨0, [], [], _, 0, by omega, rfl, rfl, HAT0.out, rfl, by simp, Nat.le_refl _, (fun f hf => by cases hf), HO0.out, (Aft.refl _).alloc _, fun _ => rfl⟩
  case round =>
    clear HO0 HAT0
    obtain ⟨at_, ps, l, a, c, hat, rfl, rfl, hA, hfe, hl9, hlc, hz, ro, haf, hz0'⟩ := hrel
    have HA := Lib.hid hA
    have HFE := Lib.hid hfe
    clear hA hfe
    by_cases hs0 : s.size = 0
    · have hd : s.data.toList = [] := List.length_eq_zero_iff.1 (by rw [HSL.out]; exact hs0)
      have hem : s.toList.isEmpty = true := by rw [Lib.toList_data, hd]; rfl
      have hp0 : ps = [] := by
        have h := HA.out
        rw [hd] at h
        rcases h with ⟨_, h⟩ | ⟨h, _⟩
        · have hl := congrArg List.length h
          simp [parts] at hl
          exact hl
        · have := hz0' hs0
          simp at h
          omega
      have hl0 : l = [] := by
        have h := HFE.out
        rw [hp0] at h
        cases h
        rfl
      subst hl0
      have hres : res s.data.toList = some [] := by rw [hd]; rfl
      have hsn := sl_row ro (by simp)
      have hv := refValid_any a 0 c [] wr hsn hz
      rw [show validB [] = true from rfl] at hv
      have ht := fun W (h : Sl W a 0 c []) => refText_any a 0 c [] W h (by simp [text])
      have HV := Lib.hid hv
      have HT := Lib.hid ht
      have HRS := Lib.hid hres
      have hse : s = ⟨(text []).toArray⟩ := by rw [← ba_self s, hd]; rfl
      have HSE := Lib.hid hse
      clear hv ht hres hd hse
      go_wp2_with fail
      refine HV.out.mono ?_
      rintro e w2 ⟨rfl, q2⟩
      have A2 := quiet_aft q2
      go_wp2_with fail
      refine (HT.out _ (hsn.aft A2)).mono ?_
      rintro e w3 ⟨rfl, A3⟩
      rw [← HSE.out]
      go_wp2
      go_ret2
      exact ⟨(haf.trans A2).trans A3, by rw [HRS.out]; exact ⟨_, _, _, rfl, (hsn.aft A2).aft A3⟩⟩
    have hd : s.data.toList ≠ [] := fun e => hs0 (by rw [← HSL.out, e]; rfl)
    have hem : s.toList.isEmpty = false := by
      rw [Lib.toList_data]
      cases h : s.data.toList with
      | nil => exact absurd h hd
      | cons x l => rfl
    have HD := Lib.hid hd
    clear hd
    by_cases hle : at_ ≤ s.size
    · have hle' : (at_ : Int) ≤ (s.size : Int) := by omega
      have hparts : parts s.data.toList = ps ++ parts (s.data.toList.drop at_) := by
        rcases HA.out with ⟨_, h⟩ | ⟨h, _⟩
        · exact h
        · have := HSL.out; omega
      obtain ⟨p, hp, hnext, q, hq⟩ := at_part (s := s.data.toList) (by rw [HSL.out]; exact hle) hparts
      have hu1 := until_any s at_ 32 32 rfl (at_ + upTo 32 (s.data.toList.drop at_)) rfl wr (by omega) hle
      have hu2 := fun W => until_any s at_ 61 61 rfl (at_ + upTo 61 (s.data.toList.drop at_)) rfl W (by omega) hle
      have hE1 : at_ + upTo 32 (s.data.toList.drop at_) ≤ s.size := by
        have := upTo_le 32 (s.data.toList.drop at_)
        rw [List.length_drop, HSL.out] at this
        omega
      have hM1 : at_ + upTo 61 (s.data.toList.drop at_) ≤ s.size := by
        have := upTo_le 61 (s.data.toList.drop at_)
        rw [List.length_drop, HSL.out] at this
        omega
      by_cases hm : upTo 61 (s.data.toList.drop at_) < upTo 32 (s.data.toList.drop at_)
      · have hft := at_feat hm
        rw [← hp] at hft
        by_cases h8 : l.length ≤ 8
        · obtain ⟨va, hva⟩ : ∃ va, s.extract at_ (at_ + upTo 61 (s.data.toList.drop at_)) = va := ⟨_, rfl⟩
          obtain ⟨vb, hvb⟩ : ∃ vb, s.extract (at_ + upTo 61 (s.data.toList.drop at_) + 1) (at_ + upTo 32 (s.data.toList.drop at_)) = vb := ⟨_, rfl⟩
          have hfv : ftOf p = some (va, vb) := by
            rw [hft, ← hva, ← hvb, ex_mid, ex_mid, mid_eq, Nat.add_sub_cancel_left]
          have hvz : va.size ≤ maxLen ∧ vb.size ≤ maxLen := by
            rw [← hva, ← hvb, ByteArray.size_extract, ByteArray.size_extract]
            unfold maxLen
            omega
          have HNX := Lib.hid hnext
          have HFV := Lib.hid hfv
          have HVZ := Lib.hid hvz
          have hME : at_ + upTo 61 (s.data.toList.drop at_) < at_ + upTo 32 (s.data.toList.drop at_) := by omega
          clear hft hfv hnext hp hq hparts hm hvz
          generalize hEe : at_ + upTo 32 (s.data.toList.drop at_) = E at *
          generalize hMe : at_ + upTo 61 (s.data.toList.drop at_) = Md at *
          have HU1 := Lib.hid hu1
          have HU2 := Lib.hid hu2
          have atM : at_ ≤ Md := by omega
          clear hu1 hu2 hEe hMe
          have g1 : (at_ : Int) ≤ (Md : Int) := by omega
          have g2 : (Md : Int) ≤ (s.size : Int) := by omega
          have g3 : (0 : Int) ≤ (Md : Int) + 1 := by omega
          have g4 : (Md : Int) + 1 ≤ (E : Int) := by omega
          have g5 : (E : Int) ≤ (s.size : Int) := by omega
          have g6 : ¬ ((E : Int) ≤ (Md : Int)) := by omega
          have g7 : ¬ ((8 : Int) < (l.length : Int)) := by omega
          have g8 : IntKind.i64.wrap ((Md : Int) + 1) = (Md : Int) + 1 := wrap_small _ (by omega) (by omega)
          have g9 : (0 : Int) ≤ (at_ : Int) := by omega
          have g10 : (0 : Int) ≤ (E : Int) := by omega
          have g11 : (0 : Int) ≤ (Md : Int) := by omega
          go_wp2_with fail
          refine HU1.out.mono ?_
          rintro e w1 ⟨rfl, rfl⟩
          go_wp2_with fail
          refine (HU2.out _).mono ?_
          rintro e w1 ⟨rfl, rfl⟩
          go_wp2
          refine wp_region_held_drew (S := fun _ => True) (by kernel_rfl) (trivial) (fun hHeld => ?_)
          refine take_on (i := 0) (v := ?v1) rfl (by kernel_rfl) (by kernel_rfl) (by kernel_rfl) (fun _ _ _ h => h) (by rfl) (by assumption) ?y1 ?_
          case y1 => (intro w hSw; (try dsimp only at hSw); go_simp; (try with_reducible rfl))
          try simp only [Act.put, List.setIfInBounds_toArray, List.set_cons_zero, List.set_cons_succ]
          refine take_on (i := 1) (v := ?v2) rfl (by kernel_rfl) (by kernel_rfl) (by kernel_rfl) (fun _ _ _ h => h) (by rfl) (by assumption) ?y2 ?_
          case y2 => (intro w hSw; (try dsimp only at hSw); go_simp; (try with_reducible rfl))
          try simp only [Act.put, List.setIfInBounds_toArray, List.set_cons_zero, List.set_cons_succ]
          refine take_on (i := 2) (v := ?v3) rfl (by kernel_rfl) (by kernel_rfl) (by kernel_rfl) (fun _ _ _ h => h) (by rfl) (by assumption) ?y3 ?_
          case y3 => (intro w hSw; (try dsimp only at hSw); go_simp; (try with_reducible rfl))
          try simp only [Act.put, List.setIfInBounds_toArray, List.set_cons_zero, List.set_cons_succ]
          refine take_on (i := 3) (v := ?v4) rfl (by kernel_rfl) (by kernel_rfl) (by kernel_rfl) (fun _ _ _ h => h) (by rfl) (by assumption) ?y4 ?_
          case y4 => (intro w hSw; (try dsimp only at hSw); go_simp; (try with_reducible rfl))
          try simp only [Act.put, List.setIfInBounds_toArray, List.set_cons_zero, List.set_cons_succ]
          refine take_on (i := 4) (v := ?v5) rfl (by kernel_rfl) (by kernel_rfl) (by kernel_rfl) (fun _ _ _ h => h) (by rfl) (by assumption) ?y5 ?_
          case y5 => (intro w hSw; (try dsimp only at hSw); go_simp; (try with_reducible rfl))
          try simp only [Act.put, List.setIfInBounds_toArray, List.set_cons_zero, List.set_cons_succ]
          refine take_on (i := 5) (v := ?v6) rfl (by kernel_rfl) (by kernel_rfl) (by kernel_rfl) (fun _ _ _ h => h) (by rfl) (by assumption) ?y6 ?_
          case y6 => (intro w hSw; (try dsimp only at hSw); go_simp; (try with_reducible rfl))
          try simp only [Act.put, List.setIfInBounds_toArray, List.set_cons_zero, List.set_cons_succ]
          refine take_on (i := 6) (v := ?v7) rfl (by kernel_rfl) (by kernel_rfl) (by kernel_rfl) (fun _ _ _ h => h) (by rfl) (by assumption) ?y7 ?_
          case y7 => (intro w hSw; (try dsimp only at hSw); go_simp; (try with_reducible rfl))
          try simp only [Act.put, List.setIfInBounds_toArray, List.set_cons_zero, List.set_cons_succ]
          refine take_on (i := 7) (v := ?v8) rfl (by kernel_rfl) (by kernel_rfl) (by kernel_rfl) (fun _ _ _ h => h) (by rfl) (by assumption) ?y8 ?_
          case y8 => (intro w hSw; (try dsimp only at hSw); go_simp; (try with_reducible rfl))
          try simp only [Act.put, List.setIfInBounds_toArray, List.set_cons_zero, List.set_cons_succ]
          refine take_on (i := 8) (v := ?v9) rfl (by kernel_rfl) (by kernel_rfl) (by kernel_rfl) (fun _ _ _ h => h) (by rfl) (by assumption) ?y9 ?_
          case y9 => (intro w hSw; (try dsimp only at hSw); go_simp; (try with_reducible rfl))
          try simp only [Act.put, List.setIfInBounds_toArray, List.set_cons_zero, List.set_cons_succ]
          refine take_on (i := 9) (v := ?v10) rfl (by kernel_rfl) (by kernel_rfl) (by kernel_rfl) (fun _ _ _ h => h) (by rfl) (by assumption) ?y10 ?_
          case y10 => (intro w hSw; (try dsimp only at hSw); go_simp; (try with_reducible rfl))
          try simp only [Act.put, List.setIfInBounds_toArray, List.set_cons_zero, List.set_cons_succ]
          refine take_on (i := 10) (v := ?v11) rfl (by kernel_rfl) (by kernel_rfl) (by kernel_rfl) (fun _ _ _ h => h) (by rfl) (by assumption) ?y11 ?_
          case y11 => (intro w hSw; (try dsimp only at hSw); go_simp; (try with_reducible rfl))
          try simp only [Act.put, List.setIfInBounds_toArray, List.set_cons_zero, List.set_cons_succ]
          refine one_ready (i := 11) rfl (by kernel_rfl) (by rfl) (fun K hK => ?_)
          go_simp
          refine hK.out _ _ (trivial) (fun hHeld => ?_)
          clear hK K
          try simp only [Act.put, List.setIfInBounds_toArray, List.set_cons_zero, List.set_cons_succ]
          refine one_ready (i := 12) rfl (by kernel_rfl) (by rfl) (fun K hK => ?_)
          refine wp_append_own _ (.tmp 31) (.tmp 42) 22 rfl w.heap.size 34 i0 _ 2 32 Tryd.underlying22 hi hz0 hz1 hz2 rfl (by decide) _ l.length (flat l) rfl ((row_drew ro).alloc _) ⟨wr.heap.size, 0, none⟩ 1 1 (flat [(va, vb)]) rfl rfl (one_cells' wr (va, vb)) (flat_one _) (by unfold maxLen; omega) (by omega) (by have := haf.size; simp; omega) ?_
          intro v8 w8 own8 grow8 _
          obtain ⟨g8', c8, rfl⟩ := ownsRow_succ own8
          have A8 : Aft w w8 := ((haf.drew).alloc _).grown grow8 (fun r hr => (ro.lt r hr).1)
          try go_simp
          refine hK.out _ _ (trivial) (fun hHeld => ?_)
          clear hK K
          try simp only [Act.put, List.setIfInBounds_toArray, List.set_cons_zero, List.set_cons_succ]
          refine take_on (i := 13) (v := ?v14) rfl (by kernel_rfl) (by kernel_rfl) (by kernel_rfl) (fun _ _ _ h => h) (by rfl) (by assumption) ?y14 ?_
          case y14 => (intro w hSw; (try dsimp only at hSw); go_simp; (try with_reducible rfl))
          try simp only [Act.put, List.setIfInBounds_toArray, List.set_cons_zero, List.set_cons_succ]
          refine wpAnyH_done (by kernel_rfl) ?_ _
          have hz' : Sized (l ++ [(va, vb)]) := by
            intro f' hf'
            rcases List.mem_append.1 hf' with k | k
            · exact hz f' k
            · simp at k
              subst k
              exact HVZ.out
          have own9 : w8.ownsRow w.heap.size 34 2 (.slice (some ⟨g8', 0, none⟩) (l ++ [(va, vb)]).length c8) (l ++ [(va, vb)]).length (flat (l ++ [(va, vb)])) := by
            rw [List.length_append, flat_append]
            exact own8
          have hc8 : (l ++ [(va, vb)]).length ≤ c8 := by
            rcases own9.2 with ⟨e, _⟩ | ⟨g', cap, cur, e, _, _, hle, _⟩
            · cases e
            · cases e; exact hle
          have HO9 := Lib.hid own9
          have HZ' := Lib.hid hz'
          have hval : Value.slice (some ⟨g8', 0, none⟩) (l.length + 1) c8 = .slice (some ⟨g8', 0, none⟩) (l ++ [(va, vb)]).length c8 := by rw [List.length_append]; rfl
          have HVAL := Lib.hid hval
          clear own9 own8 grow8 hz' hval
          go_wp2
          go_roundw
          case rel => exact ⟨E + 1, ps ++ [p], l ++ [(va, vb)], _, c8, by omega, by go_num, HVAL.out, HNX.out, feats_snoc HFE.out HFV.out, by rw [List.length_append]; simp; omega, hc8, HZ'.out, HO9.out, A8, fun h => absurd h hs0⟩
          case measure => simp [intOf]; omega
        · have hres := res_long HD.out hparts HFE.out (by omega)
          have HRS := Lib.hid hres
          have hME : at_ + upTo 61 (s.data.toList.drop at_) < at_ + upTo 32 (s.data.toList.drop at_) := by omega
          clear hft hnext hp hq hparts hm hres
          generalize hEe : at_ + upTo 32 (s.data.toList.drop at_) = E at *
          generalize hMe : at_ + upTo 61 (s.data.toList.drop at_) = Md at *
          have HU1 := Lib.hid hu1
          have HU2 := Lib.hid hu2
          clear hu1 hu2 hEe hMe
          have g6 : ¬ ((E : Int) ≤ (Md : Int)) := by omega
          have g7 : ((8 : Int) < (l.length : Int)) := by omega
          go_wp2_with fail
          refine HU1.out.mono ?_
          rintro e w1 ⟨rfl, rfl⟩
          go_wp2_with fail
          refine (HU2.out _).mono ?_
          rintro e w1 ⟨rfl, rfl⟩
          go_wp2
          go_ret2
          exact ⟨haf, by rw [HRS.out]; rfl⟩
      · have hres : res s.data.toList = none := by
          refine res_bad HD.out (feats_bad (p := p) (by rw [hq]; simp) ?_)
          rw [hp]
          exact at_bad hm
        have HRS := Lib.hid hres
        have hME : at_ + upTo 32 (s.data.toList.drop at_) ≤ at_ + upTo 61 (s.data.toList.drop at_) := by omega
        clear hnext hp hq hparts hm hres
        generalize hEe : at_ + upTo 32 (s.data.toList.drop at_) = E at *
        generalize hMe : at_ + upTo 61 (s.data.toList.drop at_) = Md at *
        have HU1 := Lib.hid hu1
        have HU2 := Lib.hid hu2
        clear hu1 hu2 hEe hMe
        have g6 : ((E : Int) ≤ (Md : Int)) := by omega
        go_wp2_with fail
        refine HU1.out.mono ?_
        rintro e w1 ⟨rfl, rfl⟩
        go_wp2_with fail
        refine (HU2.out _).mono ?_
        rintro e w1 ⟨rfl, rfl⟩
        go_wp2
        go_ret2
        exact ⟨haf, by rw [HRS.out]; rfl⟩
    · have hle' : ¬ (at_ : Int) ≤ (s.size : Int) := by omega
      have hparts : parts s.data.toList = ps := by
        rcases HA.out with ⟨h, _⟩ | ⟨_, h⟩
        · have := HSL.out; omega
        · exact h
      have hfe := HFE.out
      rw [← hparts] at hfe
      have hsn := sl_row ro (by omega)
      have hv := refValid_any a l.length c l wr hsn hz
      have htx : text l = s.data.toList := by rw [text_feats hfe, joinP_parts]
      have ht := fun W (h : Sl W a l.length c l) => refText_any a l.length c l W h (by rw [htx, HSL.out]; omega)
      cases hvb : validB l
      · have HRS := Lib.hid (res_wrong HD.out hfe hvb)
        rw [hvb] at hv
        have HV := Lib.hid hv
        clear hv ht hfe hparts htx
        go_wp2_with fail
        refine HV.out.mono ?_
        rintro e w2 ⟨rfl, q2⟩
        have A2 := quiet_aft q2
        go_wp2
        go_ret2
        exact ⟨haf.trans A2, by rw [HRS.out]; rfl⟩
      · have HRS := Lib.hid (res_good HD.out hfe hvb)
        rw [hvb] at hv
        have hse : s = ⟨(text l).toArray⟩ := by rw [htx]
        have HSE := Lib.hid hse
        have HV := Lib.hid hv
        have HT := Lib.hid ht
        clear hv ht hfe hparts htx hse
        go_wp2_with fail
        refine HV.out.mono ?_
        rintro e w2 ⟨rfl, q2⟩
        have A2 := quiet_aft q2
        go_wp2_with fail
        refine (HT.out _ (hsn.aft A2)).mono ?_
        rintro e w3 ⟨rfl, A3⟩
        rw [← HSE.out]
        go_wp2
        go_ret2
        exact ⟨(haf.trans A2).trans A3, by rw [HRS.out]; exact ⟨_, _, _, rfl, (hsn.aft A2).aft A3⟩⟩
end Go.Proofs.YtgdmpkccibfbpaaDoor
