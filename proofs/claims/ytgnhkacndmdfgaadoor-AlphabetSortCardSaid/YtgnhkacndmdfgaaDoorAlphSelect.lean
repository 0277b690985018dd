/-
  Select returns the runes of the letters that have all classes of a mask, in order; the reference's Select; Runes tells whether two lists of runes are equal. Condition: the slices hold the letters and the runes; there are at most 70 letters.
-/
import Derived.Test.YtgnhkacndmdfgaaDoorAlphRef
import Derived.Laws.Cover4
namespace Go.Proofs.YtgnhkacndmdfgaaDoor
open Go.RowKit
open AlphPlain

/-- THE SLICE '.slice A n c' HOLDS THE RUNES rs. -/
structure Rr (w : World) (A : Option Addr) (n c : Nat) (rs : List Int) : Prop where
  len : rs.length = n
  le : n ≤ c
  nl : A = none → c = 0
  cells : ∀ i r, rs[i]? = some r → ∃ b off, A = some ⟨b, off, none⟩ ∧ w.cell? ⟨b, off + i, none⟩ = some (.int .i32 r)

theorem Rr.aft {w w' : World} {A : Option Addr} {n c : Nat} {rs : List Int} (h : Rr w A n c rs) (k : Aft w w') : Rr w' A n c rs :=
  ⟨h.len, h.le, h.nl, fun i f hi => by
    obtain ⟨b, off, hA, h1⟩ := h.cells i f hi
    exact ⟨b, off, hA, k.cell h1⟩⟩

def runV (l : List Int) : List Value := l.map (Value.int .i32)
theorem runV_append (a b : List Int) : runV (a ++ b) = runV a ++ runV b := List.map_append
theorem runV_one (l : List Int) : ∀ u ∈ runV l, u.oneCell' = true := by
  intro u hu
  obtain ⟨s, _, rfl⟩ := List.mem_map.1 hu
  rfl

theorem Rr.of_row {w : World} {base n : Nat} {v : Value} {rs : List Int} (h : w.ownsRow base 21 1 v n (runV rs)) (hl : rs.length = n) : ∃ A c, v = .slice A n c ∧ Rr w A n c rs := by
  rcases h.2 with ⟨rfl, rfl⟩ | ⟨g, cap, cur, rfl, _, _, hle, _, _⟩
  · have : rs = [] := List.length_eq_zero_iff.1 hl
    subst this
    exact ⟨none, 0, rfl, ⟨rfl, Nat.le_refl _, fun _ => rfl, fun i f h => by simp at h⟩⟩
  · refine ⟨_, _, rfl, ⟨hl, hle, fun e => (by cases e), fun i f hi => ?_⟩⟩
    have hlt : i < n := by have := (List.getElem?_eq_some_iff.1 hi).1; omega
    refine ⟨g, 0, rfl, ?_⟩
    rw [Nat.zero_add, h.cellAt _ (by omega)]
    simp [runV, hi]

theorem Rr.conv {w : World} {A : Option Addr} {n c : Nat} {rs : List Int} (h : Rr w A n c rs) : (convert 35 9 (.slice A n c)).run Tryd.prog w = .ok (.string (runesBytes rs)) w := by
  cases A with
  | none =>
    have h0 : rs = [] := List.length_eq_zero_iff.1 (by have := h.nl rfl; have := h.le; have := h.len; omega)
    subst h0
    exact run_convert_runes_nil w _ _ 21 n c Tryd.underlying35 Tryd.underlying21 Tryd.underlying9
  | some a =>
    rw [run_convert_runes w _ _ 21 a n c rs (by rw [h.len]; exact Nat.le_refl _) Tryd.underlying35 Tryd.underlying21 Tryd.underlying9 (fun j hj => ?_), List.take_of_length_le (by rw [h.len]; exact Nat.le_refl _)]
    obtain ⟨b, off, hA, h1⟩ := h.cells j _ (List.getElem?_eq_getElem hj)
    cases hA
    rw [Addr.add_lit, h1]
    simp [List.getD, List.getElem?_eq_getElem hj]

theorem runes_any (A : Option Addr) (n c : Nat) (B : Option Addr) (m d : Nat) (rs : List Int) (w : World) (ha : Rr w A n c rs) (hb : Rr w B m d rs) :
    Calls Tryd.prog 32 #[.slice A n c, .slice B m d] w (BoolPost w true) := by
  obtain rfl : n = m := by rw [← ha.len]; exact hb.len
  have c1 := ha.conv
  have c2 := hb.conv
  go_enter Tryd.func32, Tryd.ntmps32
  go_wp2
  go_ret
  exact ⟨by simp, Aft.refl _⟩

/-- Has the letter all classes of the mask? -/
def hasM (k : Int) (l : Lt) : Bool := decide (bits .and .u32 l.2 k = k)
def selL (ls : List Lt) (k : Int) : List Int := (ls.filter (hasM k)).map (·.1)

theorem selL_step {ls : List Lt} {out : List Int} {k : Int} {j : Nat} {l : Lt} (h : selL ls k = out ++ selL (ls.drop j) k) (hl : ls[j]? = some l) : selL ls k = (out ++ if hasM k l then [l.1] else []) ++ selL (ls.drop (j + 1)) k := by
  rw [h, drop_of_get hl]
  unfold selL
  rw [List.filter_cons]
  cases hasM k l <;> simp

theorem refHas_any (a k : Int) (w : World) : Calls Tryd.prog 49 #[.int .u32 a, .int .u32 k] w (fun e w' => e = .returned (.bool (decide (bits .and .u32 a k = k))) ∧ w = w') := by
  by_cases h : bits .and .u32 a k = k <;>
  · go_enter Tryd.func49, Tryd.ntmps49
    go_wp2
    go_ret
    exact ⟨by simp [h], rfl⟩

theorem Tryd.infoR : (Tryd.prog.info? 21).map (fun i => (i.zero, i.size, i.bytes)) = some (some (.int .i32 0), 1, 4) := by kernel_rfl
theorem one_run2 (w : World) (s : Int) (H : Nat) (h : w.heap.size = H) : ∀ j u, (runV [s])[j]? = some u → (w.alloc (.cells #[.int .i32 s] 21)).cell? ((⟨H, 0, none⟩ : Addr).add j) = some u := by
  subst h
  intro j u hj
  match j, hj with
  | 0, hj => simp [runV] at hj; subst hj; simp [Addr.add]
  | j + 1, hj => simp [runV] at hj
theorem rowR_lt {wo wr : World} {v : Value} {n : Nat} {l : List Value} (h : wr.ownsRow wo.heap.size 21 1 v n l) : ∀ g, v.ownBlock = some g → wo.heap.size ≤ g := fun g hg => (h.lt g hg).1

def RrPost (w : World) (l : List Int) (e : Ending) (w' : World) : Prop := (∃ A n c, e = .returned (.slice A n c) ∧ Rr w' A n c l) ∧ Aft w w'

set_option maxRecDepth 100000 in
set_option maxHeartbeats 1600000 in
theorem select_any (A : Option Addr) (n c : Nat) (ls : List Lt) (q : Int) (w : World) (ha : Ll w A n c ls) (h70 : n ≤ 70) :
    Calls Tryd.prog 33 #[.slice A n c, .int .u32 q] w (RrPost w (selL ls q)) := by
  have hnc := ha.le
  have hlen := Lib.hid ha.len
  obtain ⟨i0, hi, hz0, hz1, hz2⟩ := info_parts Tryd.infoR
  go_enter Tryd.func33, Tryd.ntmps33
  go_wp2
  go_loopw [5, 10] (fun v x wr => ∃ (k : Nat) (out : List Int), k ≤ n ∧ x = .int .i64 (k : Nat) ∧ wr.ownsRow w.heap.size 21 1 v out.length (runV out) ∧ out.length ≤ k ∧ selL ls q = out ++ selL (ls.drop k) q ∧ Aft w wr) (fun _ x _ => n - (intOf x).toNat)
  case atStart => exact ⟨0, [], Nat.zero_le _, rfl, World.ownsRow_nil _ _ _ _, by simp, by simp, Aft.refl _⟩
  case round =>
    obtain ⟨k, out, hk, rfl, own, le, eq, haf⟩ := hrel
    have HE := Lib.hid eq
    have HOWN := Lib.hid own
    clear eq own
    by_cases hlt : k < n
    · obtain ⟨b, off, l, rfl, hf, g1, g2⟩ := ha.at_ hlt
      have c1 := haf.cell g1
      have c2 := haf.cell g2
      have HF := Lib.hid hf
      clear hf g1 g2
      by_cases hh : bits .and .u32 l.2 q = q
      · have hs0 := haf.size
        have HM := Lib.hid (show hasM q l = true by simp [hasM, hh])
        go_wp2_with (at_builtin; refine wpList_append_own _ rfl _ _ 35 rfl w.heap.size 21 i0 _ 1 4 Tryd.underlying35 hi hz0 hz1 hz2 rfl (by decide) _ _ _ rfl ((HOWN.out.alloc _).alloc _) ⟨wr.heap.size + 1, 0, none⟩ 1 1 (runV [l.1]) rfl rfl (one_run2 _ _ _ (by exact World.size_alloc _ _)) (runV_one _) (by unfold maxLen; omega) (by omega) (by simp; omega) ?_; intro v' w2 own2 grow2 _)
        have hv' : ∃ g cap, v' = .slice (some ⟨g, 0, none⟩) (out.length + 1) cap := by
          rcases own2.2 with ⟨_, h0⟩ | ⟨g, cap, cur, hv, _⟩
          · omega
          · exact ⟨g, cap, hv⟩
        have hrel : ∀ V, v' = V → ∃ (k_1 : Nat) (out_1 : List Int), k_1 ≤ n ∧ Value.int .i64 ((k : Int) + 1) = .int .i64 (k_1 : Nat) ∧ w2.ownsRow w.heap.size 21 1 V out_1.length (runV out_1) ∧ out_1.length ≤ k_1 ∧ selL ls q = out_1 ++ selL (ls.drop k_1) q ∧ Aft w w2 := by
          rintro V rfl
          refine ⟨k + 1, out ++ [l.1], by omega, by go_num, ?_, by simp; omega, ?_, ((haf.alloc _).alloc _).grown grow2 (rowR_lt HOWN.out)⟩
          · rw [runV_append, List.length_append]; exact own2
          · have := selL_step HE.out HF.out
            rwa [if_pos HM.out] at this
        have HR := Lib.hid hrel
        clear hrel
        obtain ⟨g', cap', rfl⟩ := hv'
        clear own2 grow2
        go_wp2
        go_roundw
        case rel => exact HR.out _ rfl
        case measure => simp [intOf]; omega
      · have HM := Lib.hid (show hasM q l = false by simp [hasM, hh])
        go_wp2
        go_roundw
        case rel => exact ⟨k + 1, out, by omega, by go_num, HOWN.out.alloc _, by omega, by have := selL_step HE.out HF.out; simpa [HM.out] using this, haf.alloc _⟩
        case measure => simp [intOf]; omega
    · obtain rfl : k = n := by omega
      obtain ⟨A3, c3, rfl, s3⟩ := Rr.of_row HOWN.out rfl
      go_wp2
      go_ret
      refine ⟨⟨_, _, _, rfl, ?_⟩, haf⟩
      have e := HE.out
      rw [List.drop_of_length_le (by rw [hlen.out]; exact Nat.le_refl _)] at e
      rw [e]
      simpa [selL] using s3

set_option maxRecDepth 100000 in
set_option maxHeartbeats 1600000 in
theorem refSelect_any (A : Option Addr) (n c : Nat) (ls : List Lt) (q : Int) (w : World) (ha : Ll w A n c ls) (h70 : n ≤ 70) :
    Calls Tryd.prog 34 #[.slice A n c, .int .u32 q] w (RrPost w (selL ls q)) := by
  have hnc := ha.le
  have hlen := Lib.hid ha.len
  obtain ⟨i0, hi, hz0, hz1, hz2⟩ := info_parts Tryd.infoR
  go_enter Tryd.func34, Tryd.ntmps34
  go_wp2
  have own0 : (w.alloc (.cells #[] 21)).ownsRow w.heap.size 21 1 (.slice (some ⟨w.heap.size, 0, none⟩) 0 0) 0 [] := World.ownsRow_lit w #[] 0 (Nat.le_refl _) (by unfold maxLen; omega) rfl
  go_loopw [5, 11] (fun v x wr => ∃ (k : Nat) (out : List Int), k ≤ n ∧ x = .int .i64 (k : Nat) ∧ wr.ownsRow w.heap.size 21 1 v out.length (runV out) ∧ out.length ≤ k ∧ selL ls q = out ++ selL (ls.drop k) q ∧ Aft w wr) (fun _ x _ => n - (intOf x).toNat)
  case atStart => exact ⟨0, [], Nat.zero_le _, rfl, own0, by simp, by simp, (Aft.refl _).alloc _⟩
  case round =>
    obtain ⟨k, out, hk, rfl, own, le, eq, haf⟩ := hrel
    have HE := Lib.hid eq
    have HOWN := Lib.hid own
    clear eq own own0
    by_cases hlt : k < n
    · obtain ⟨b, off, l, rfl, hf, g1, g2⟩ := ha.at_ hlt
      have c1 := haf.cell g1
      have c2 := haf.cell g2
      have HF := Lib.hid hf
      clear hf g1 g2
      by_cases hh : bits .and .u32 l.2 q = q
      · have hs0 := haf.size
        have HM := Lib.hid (show hasM q l = true by simp [hasM, hh])
        go_wp2_with fail
        have hc := refHas_any l.2 q
        rw [decide_eq_true hh] at hc
        refine (hc _).mono ?_
        rintro e w1 ⟨rfl, rfl⟩
        clear hc
        go_wp2_with (at_builtin; refine wpList_append_own _ rfl _ _ 35 rfl w.heap.size 21 i0 _ 1 4 Tryd.underlying35 hi hz0 hz1 hz2 rfl (by decide) _ _ _ rfl ((HOWN.out.alloc _).alloc _) ⟨wr.heap.size + 1, 0, none⟩ 1 1 (runV [l.1]) rfl rfl (one_run2 _ _ _ (by exact World.size_alloc _ _)) (runV_one _) (by unfold maxLen; omega) (by omega) (by simp; omega) ?_; intro v' w2 own2 grow2 _)
        have hv' : ∃ g cap, v' = .slice (some ⟨g, 0, none⟩) (out.length + 1) cap := by
          rcases own2.2 with ⟨_, h0⟩ | ⟨g, cap, cur, hv, _⟩
          · omega
          · exact ⟨g, cap, hv⟩
        have hrel : ∀ V, v' = V → ∃ (k_1 : Nat) (out_1 : List Int), k_1 ≤ n ∧ Value.int .i64 ((k : Int) + 1) = .int .i64 (k_1 : Nat) ∧ w2.ownsRow w.heap.size 21 1 V out_1.length (runV out_1) ∧ out_1.length ≤ k_1 ∧ selL ls q = out_1 ++ selL (ls.drop k_1) q ∧ Aft w w2 := by
          rintro V rfl
          refine ⟨k + 1, out ++ [l.1], by omega, by go_num, ?_, by simp; omega, ?_, ((haf.alloc _).alloc _).grown grow2 (rowR_lt HOWN.out)⟩
          · rw [runV_append, List.length_append]; exact own2
          · have := selL_step HE.out HF.out
            rwa [if_pos HM.out] at this
        have HR := Lib.hid hrel
        clear hrel
        obtain ⟨g', cap', rfl⟩ := hv'
        clear own2 grow2
        go_wp2
        go_roundw
        case rel => exact HR.out _ rfl
        case measure => simp [intOf]; omega
      · have HM := Lib.hid (show hasM q l = false by simp [hasM, hh])
        go_wp2_with fail
        have hc := refHas_any l.2 q
        rw [decide_eq_false hh] at hc
        refine (hc _).mono ?_
        rintro e w1 ⟨rfl, rfl⟩
        clear hc
        go_wp2
        go_roundw
        case rel => exact ⟨k + 1, out, by omega, by go_num, HOWN.out.alloc _, by omega, by have := selL_step HE.out HF.out; simpa [HM.out] using this, haf.alloc _⟩
        case measure => simp [intOf]; omega
    · obtain rfl : k = n := by omega
      obtain ⟨A3, c3, rfl, s3⟩ := Rr.of_row HOWN.out rfl
      go_wp2
      go_ret
      refine ⟨⟨_, _, _, rfl, ?_⟩, haf⟩
      have e := HE.out
      rw [List.drop_of_length_le (by rw [hlen.out]; exact Nat.le_refl _)] at e
      rw [e]
      simpa [selL] using s3
end Go.Proofs.YtgnhkacndmdfgaaDoor
