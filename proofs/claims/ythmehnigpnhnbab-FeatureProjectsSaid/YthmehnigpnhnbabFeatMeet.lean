/-
  Meet, of the program and of the reference, returns the features that both lists have, each as it looks for them. Condition: the slices hold the features, and the first one is no longer than an argument can be.
-/
import Derived.Test.YthmehnigpnhnbabFeatIndex
import Derived.Test.YthmehnigpnhnbabFeatUnify
import Derived.Deep.DeepMust
namespace Go.Proofs.Ythmehnigpnhnbab
open Go.RowKit
open FeatPlain

def blk (A : Option Addr) : Option Nat := A.map (·.block)

def SkipPost2 (w : World) (A : Option Addr) (l : List Ft) (e : Ending) (w' : World) : Prop := (∃ A' n' c', e = .returned (.slice A' n' c') ∧ Sl w A' n' c' l ∧ blk A' = blk A) ∧ w = w'

theorem blk_cut (b off c : Nat) : blk (if c = 1 then some ⟨b, off, none⟩ else some ⟨b, off + 2, none⟩) = blk (some ⟨b, off, none⟩) := by split <;> rfl

set_option maxHeartbeats 400000 in
theorem skip_any2 (A : Option Addr) (n c : Nat) (fs : List Ft) (name : ByteArray) (w : World) (h : Sl w A n c fs) :
    Calls Try.prog 43 #[.slice A n c, .string name] w (SkipPost2 w A (skip name fs)) := by
  go_enter Try.func43, Try.ntmps43
  go_wp2
  go_loop [0] (fun v => ∃ A' n' c' fs', v = .slice A' n' c' ∧ Sl w A' n' c' fs' ∧ skip name fs = skip name fs' ∧ blk A' = blk A) (fun v => lenOf v)
  case atStart => exact ⟨A, n, c, fs, rfl, h, rfl, rfl⟩
  case round =>
    obtain ⟨A', n', c', fs', rfl, hs, he, hbk⟩ := hrel
    have HE := Lib.hid he
    have HB := Lib.hid hbk
    clear he hbk
    cases fs' with
    | nil =>
      obtain rfl : n' = 0 := by have := hs.len; simp at this; omega
      go_wp2
      go_ret
      exact ⟨⟨A', 0, c', rfl, by rw [HE.out]; exact hs, HB.out⟩, rfl⟩
    | cons f fs' =>
      obtain ⟨m, rfl⟩ : ∃ m, n' = m + 1 := ⟨fs'.length, by have := hs.len; simp at this; omega⟩
      obtain ⟨b, off, rfl, h1, h2⟩ := hs.head
      have hle := hs.le
      have hmx := hs.max
      by_cases hlt : lt f.1 name = true
      · have hlt' : Op.bytesLess f.1.toList name.toList = true := hlt
        go_wp2
        go_round
        case rel => exact ⟨_, _, _, fs', rfl, hs.cut, by rw [HE.out]; simp [skip, hlt], by rw [blk_cut]; exact HB.out⟩
        case measure => simp [lenOf]
      · have hlt' : Op.bytesLess f.1.toList name.toList = false := by simpa [lt] using hlt
        go_wp2
        go_ret
        refine ⟨⟨_, _, _, rfl, ?_, HB.out⟩, rfl⟩
        rw [HE.out]
        have e : skip name (f :: fs') = f :: fs' := by simp [skip, hlt]
        rw [e]
        exact hs

/-- What lies in blocks below base stays where only later rows have grown. -/
theorem Sl.grownOld {w w' : World} {A : Option Addr} {n c base : Nat} {fs : List Ft} {row : Option Nat} (h : Sl w A n c fs) (hg : w.grownBy w' row) (hr : ∀ g, row = some g → base ≤ g) (hb : ∀ b, blk A = some b → 0 < n → b < base) : Sl w' A n c fs :=
  ⟨h.len, h.le, h.max, h.cmax, h.nl, fun i f hi => by
    obtain ⟨b, off, hA, h1, h2⟩ := h.cells i f hi
    have hn : 0 < n := by have := (List.getElem?_eq_some_iff.1 hi).1; have := h.len; omega
    have hlt := hb b (by rw [hA]; rfl) hn
    have hbw : b < w.heap.size := World.block_lt_of_cell? w _ h1
    have hs := hg.block b hbw (fun e => by have := hr b e.symm; omega)
    exact ⟨b, off, hA, (World.cell?_of_block (w := w) hs).trans h1, (World.cell?_of_block (w := w) hs).trans h2⟩⟩

theorem Sl.old {w : World} {A : Option Addr} {n c : Nat} {fs : List Ft} (h : Sl w A n c fs) : ∀ b, blk A = some b → 0 < n → b < w.heap.size := by
  intro b hb hn
  obtain ⟨b', off', f, hA, _, h1, _⟩ := h.at_ hn
  rw [hA] at hb
  simp [blk] at hb
  subst hb
  exact World.block_lt_of_cell? w _ h1

/-- A slice that the call has built. -/
theorem Sl.of_row {w : World} {base n : Nat} {v : Value} {fs : List Ft} (h : w.ownsRow base 29 2 v n (flat fs)) (hl : fs.length = n) (hm : n * 32 ≤ 281474976710656) : ∃ A c, v = .slice A n c ∧ Sl w A n c fs := by
  rcases h.2 with ⟨rfl, rfl⟩ | ⟨g, cap, cur, rfl, _, _, hle, _, _⟩
  · have : fs = [] := List.length_eq_zero_iff.1 hl
    subst this
    exact ⟨none, 0, rfl, Sl.nil (by omega) (fun _ => rfl)⟩
  · exact ⟨_, _, rfl, Sl.of_own h hl hle hm⟩

def SlPost (w : World) (l : List Ft) (e : Ending) (w' : World) : Prop := (∃ A n c, e = .returned (.slice A n c) ∧ Sl w' A n c l) ∧ Aft w w'

theorem meet_step_nil {xs ys ys' out : List Ft} {k : Nat} {f : Ft} (h : meet xs ys = out ++ meet (xs.drop k) ys') (hf : xs[k]? = some f) (hs : skip f.1 ys' = []) : meet xs ys = out ++ meet (xs.drop (k + 1)) [] := by
  rw [h, drop_of_get hf, meet, hs]
theorem meet_step_eq {xs ys ys' out l : List Ft} {k : Nat} {f g : Ft} (h : meet xs ys = out ++ meet (xs.drop k) ys') (hf : xs[k]? = some f) (hs : skip f.1 ys' = g :: l) (e : g = f) : meet xs ys = (out ++ [f]) ++ meet (xs.drop (k + 1)) (g :: l) := by
  rw [h, drop_of_get hf, meet, hs]; simp [e]
theorem meet_step_ne {xs ys ys' out l : List Ft} {k : Nat} {f g : Ft} (h : meet xs ys = out ++ meet (xs.drop k) ys') (hf : xs[k]? = some f) (hs : skip f.1 ys' = g :: l) (e : ¬ g = f) : meet xs ys = out ++ meet (xs.drop (k + 1)) (g :: l) := by
  rw [h, drop_of_get hf, meet, hs]; simp [e]

theorem one_cells2 (w : World) (f : Ft) (H : Nat) (h : w.heap.size = H) : ∀ j u, (flat [f])[j]? = some u → (w.alloc (.cells #[.string f.1, .string f.2] 29)).cell? ((⟨H, 0, none⟩ : Addr).add j) = some u := by
  subst h
  exact one_cells w f

structure MRel (w : World) (xs ys : List Ft) (n : Nat) (v1 v5 i : Value) (wr : World) (k : Nat) (B : Option Addr) (m d : Nat) (ys' out : List Ft) : Prop where
  hk : k ≤ n
  ei : i = .int .i64 (k : Nat)
  e1 : v1 = .slice B m d
  hb : Sl wr B m d ys'
  ob : ∀ b, blk B = some b → 0 < m → b < w.heap.size
  own : wr.ownsRow w.heap.size 29 2 v5 out.length (flat out)
  le : out.length ≤ k
  eq : meet xs ys = out ++ meet (xs.drop k) ys'
  aft : Aft w wr

def MRelEx (w : World) (xs ys : List Ft) (n : Nat) (v1 v5 i : Value) (wr : World) : Prop := ∃ k B m d ys' out, MRel w xs ys n v1 v5 i wr k B m d ys' out

theorem row_lt {w wr : World} {v : Value} {n : Nat} {l : List Value} (h : wr.ownsRow w.heap.size 29 2 v n l) : ∀ g, v.ownBlock = some g → w.heap.size ≤ g := fun g hg => (h.lt g hg).1

set_option maxRecDepth 100000 in
set_option maxHeartbeats 1600000 in
theorem meet_any (A : Option Addr) (n c : Nat) (xs : List Ft) (B : Option Addr) (m d : Nat) (ys : List Ft) (w : World) (ha : Sl w A n c xs) (hb : Sl w B m d ys) (hsz : n * 32 ≤ 140737488351232) :
    Calls Try.prog 22 #[.slice A n c, .slice B m d] w (SlPost w (meet xs ys)) := by
  have hn := ha.max
  have hnc := ha.le
  have hlen := Lib.hid ha.len
  have OB := Lib.hid hb.old
  obtain ⟨i0, hi, hz0, hz1, hz2⟩ := info_parts Try.infoF
  go_enter Try.func22, Try.ntmps22
  go_wp2
  go_loopw [1, 5, 10] (fun v1 v5 i wr => MRelEx w xs ys n v1 v5 i wr) (fun _ _ i _ => n - (intOf i).toNat)
  case atStart => exact ⟨0, B, m, d, ys, [], Nat.zero_le _, rfl, rfl, hb, OB.out, World.ownsRow_nil _ _ _ _, by simp, by simp, Aft.refl _⟩
  case round =>
    obtain ⟨k, B', m', d', ys', out, R⟩ := hrel
    obtain ⟨hk, rfl, rfl, hs, ob, own, le, eq, haf⟩ := R
    have HE := Lib.hid eq
    have HOB := Lib.hid ob
    have HOWN := Lib.hid own
    clear eq ob own
    by_cases hlt : k < n
    · obtain ⟨b, off, f, rfl, hf, h1, h2⟩ := ha.at_ hlt
      have c1 := haf.cell h1
      have c2 := haf.cell h2
      have HF := Lib.hid hf
      clear hf h1 h2
      go_wp2_with fail
      refine (skip_any2 _ _ _ ys' f.1 _ (hs.aft ((Aft.refl _).alloc _))).mono ?_
      rintro e w1 ⟨⟨A2, n2, c2', rfl, hs2, hbk⟩, rfl⟩
      have HB2 : ∀ b, blk A2 = some b → 0 < n2 → b < w.heap.size := by
        intro b hb0 hn2
        rw [hbk] at hb0
        refine HOB.out b hb0 ?_
        rcases Nat.eq_zero_or_pos m' with e0 | e0
        · exfalso
          have h0 := hs.len
          rw [e0] at h0
          have := List.length_eq_zero_iff.1 h0
          subst this
          have := hs2.len
          simp [skip] at this
          omega
        · exact e0
      have HHB := Lib.hid HB2
      clear HB2 hbk
      cases hsk : skip f.1 ys' with
      | nil =>
        rw [hsk] at hs2
        obtain rfl : n2 = 0 := by have := hs2.len; simp at this; omega
        have HK := Lib.hid hsk
        clear hsk
        go_wp2
        go_quiet (fail)
        go_wp2
        go_roundw
        case rel => exact ⟨k + 1, A2, 0, c2', [], out, by omega, by go_num, rfl, hs2.drewN _, HHB.out, HOWN.out.alloc _, by omega, meet_step_nil HE.out HF.out HK.out, (haf.alloc _).drewN _⟩
        case measure => simp [intOf]; omega
      | cons g l =>
        rw [hsk] at hs2
        obtain ⟨q, rfl⟩ : ∃ q, n2 = q + 1 := ⟨l.length, by have := hs2.len; simp at this; omega⟩
        have HK := Lib.hid hsk
        clear hsk
        obtain ⟨b2, o2, rfl, g1, g2⟩ := hs2.head
        by_cases hgf : g = f
        · have HG := Lib.hid hgf
          have hq : feq g f = true := feq_true hgf
          clear hgf
          have hsz0 := haf.size
          have own1 := fun o1 o2 => (HOWN.out.alloc o1).alloc o2
          have HO1 := Lib.hid own1
          clear own1
          go_wp2
          go_quiet (fail)
          go_wp2_with (at_builtin; (refine wpList_append_own _ rfl _ _ 22 rfl w.heap.size 29 i0 _ 2 32 Try.underlying22 hi hz0 hz1 hz2 rfl (by decide) _ _ _ rfl (HO1.out _ _) ⟨wr.heap.size + 1, 0, none⟩ 1 1 (flat [f]) rfl rfl (one_cells2 _ f _ (by exact World.size_alloc _ _)) (flat_one _) (by unfold maxLen; omega) (by omega) (by simp; omega) ?_); intro v' w2 own2 grow2 _)
          have hv' : ∃ g cap, v' = .slice (some ⟨g, 0, none⟩) (out.length + 1) cap := by
            rcases own2.2 with ⟨_, h0⟩ | ⟨g, cap, cur, hv, _⟩
            · omega
            · exact ⟨g, cap, hv⟩
          have hfin : ∀ V, v' = V → MRelEx w xs ys n (.slice (some ⟨b2, o2, none⟩) (q + 1) c2') V (.int .i64 ((k : Int) + 1)) w2 := by
            rintro V rfl
            refine ⟨k + 1, _, _, _, g :: l, out ++ [f], by omega, by go_num, rfl, (((hs2.drewN nq).aft ((Aft.refl _).alloc _)).grownOld grow2 (row_lt HOWN.out) HHB.out), HHB.out, ?_, by simp; omega, meet_step_eq HE.out HF.out HK.out HG.out, (((haf.alloc _).drewN _).alloc _).grown grow2 (row_lt HOWN.out)⟩
            rw [flat_append, List.length_append]
            exact own2
          have HFIN := Lib.hid hfin
          clear hfin
          obtain ⟨g', cap', rfl⟩ := hv'
          clear own2 grow2
          go_wp2
          go_roundw
          case rel => exact HFIN.out _ rfl
          case measure => simp [intOf]; omega
        · have hq : feq g f = false := feq_false hgf
          go_wp2
          go_quiet (fail)
          go_wp2
          go_roundw
          case rel => exact ⟨k + 1, _, _, _, g :: l, out, by omega, by go_num, rfl, hs2.drewN _, HHB.out, HOWN.out.alloc _, by omega, meet_step_ne HE.out HF.out HK.out hgf, (haf.alloc _).drewN _⟩
          case measure => simp [intOf]; omega
    · obtain rfl : k = n := by omega
      have hfin := Sl.of_row HOWN.out rfl (by omega)
      obtain ⟨A3, c3, rfl, s3⟩ := hfin
      go_wp2
      go_ret
      refine ⟨⟨_, _, _, rfl, ?_⟩, haf⟩
      have e := HE.out
      rw [List.drop_of_length_le (by rw [hlen.out]; exact Nat.le_refl _), meet, List.append_nil] at e
      rw [e]
      exact s3
end Go.Proofs.Ythmehnigpnhnbab
