/-
  The reference's Partner; the partner of the partner has the classes of the original letter. Condition: the slice holds the letters.
-/
import Derived.Test.YtjjgfolplpbaiaaDoorAlphRef
import Derived.Laws.BitsAllLaws
namespace Go.Proofs.YtjjgfolplpbaiaaDoor
open Go.RowKit
open AlphPlain

set_option maxRecDepth 100000 in
set_option maxHeartbeats 1600000 in
theorem refPartner_any (A : Option Addr) (n c : Nat) (ls : List Lt) (r t : Int) (w : World) (ha : Ll w A n c ls) :
    Calls Tryd.prog 36 #[.slice A n c, .int .i32 r, .int .u32 t] w (ValPost w (optV (partner ls r t))) := by
  have hn := ha.max
  have hnc := ha.le
  have hlen := Lib.hid ha.len
  go_enter Tryd.func36, Tryd.ntmps36
  go_wp2_with fail
  have h1 := refIndex_any A n c ls r w ha
  cases hh : AlphPlain.has ls r
  · have e : idxI ls r = -1 := by simp [idxI, hh]
    rw [e] at h1
    refine h1.mono ?_
    rintro e w1 ⟨rfl, A1⟩
    clear h1
    go_wp2
    go_ret2
    exact ⟨by simp [partner, hh, optV], A1⟩
  · have e : idxI ls r = (pos ls r : Nat) := by simp [idxI, hh]
    rw [e] at h1
    refine h1.mono ?_
    rintro e w1 ⟨rfl, A1⟩
    clear h1
    obtain ⟨l, hl, _⟩ := pos_get hh
    have hlt : pos ls r < n := by have := (List.getElem?_eq_some_iff.1 hl).1; have := ha.len; omega
    obtain ⟨b, off, l', rfl, hf, g1, g2⟩ := ha.at_ hlt
    obtain rfl : l = l' := by rw [hl] at hf; exact Option.some.inj hf
    have HC := Lib.hid (show partner ls r t = withCls ls (bits .xor .u32 l.2 t) by simp [partner, hh, clsOf, List.getD, hl])
    generalize pos ls r = p at *
    clear hl hf g1 hh
    have hpi : (p : Int) < (n : Int) := by omega
    have hwp : IntKind.i64.wrap (p : Int) = (p : Int) := wrap_small _ (by omega) (by omega)
    go_wp2
    go_loopw [18] (fun i wr => ∃ k, k ≤ n ∧ i = .int .i64 (k : Nat) ∧ withCls ls (bits .xor .u32 l.2 t) = withCls (ls.drop k) (bits .xor .u32 l.2 t) ∧ Aft w wr) (fun i _ => n - (intOf i).toNat)
    case atStart => exact ⟨0, Nat.zero_le _, rfl, rfl, A1⟩
    case round =>
      obtain ⟨k, hk, rfl, he, haf⟩ := hrel
      have HE := Lib.hid he
      clear he
      by_cases hlt : k < n
      · obtain ⟨b', off', m, hA, hf, g1, g2'⟩ := ha.at_ hlt
        simp only [Option.some.injEq, Addr.mk.injEq, and_true] at hA
        obtain ⟨rfl, rfl⟩ := hA
        have d1 := haf.cell g1
        have d2 := haf.cell g2'
        have d3 := fun o => (haf.alloc o).cell g2
        have HF := Lib.hid (drop_of_get hf)
        clear hf g1 g2'
        by_cases hX : m.2 = bits .xor .u32 l.2 t
        · go_wp2
          go_quiet (fail)
          go_wp2
          go_ret2
          exact ⟨by rw [HC.out, HE.out, HF.out, withCls, if_pos hX]; rfl, (haf.alloc _).drewN _⟩
        · go_wp2
          go_quiet (fail)
          go_wp2
          go_roundw
          case rel => exact ⟨k + 1, by omega, by go_num, by rw [HE.out, HF.out, withCls, if_neg hX], (haf.alloc _).drewN _⟩
          case measure => simp [intOf]; omega
      · obtain rfl : k = n := by omega
        go_wp2
        go_ret2
        exact ⟨by rw [HC.out, HE.out, List.drop_of_length_le (by rw [hlen.out]; exact Nat.le_refl _)]; rfl, haf⟩

theorem withCls_some {c q : Int} : ∀ {ls : List Lt}, withCls ls c = some q → ∃ l ∈ ls, l.2 = c ∧ l.1 = q
  | l :: ls, h => by
    rw [withCls] at h
    split at h
    · cases h; exact ⟨l, by simp, by assumption, rfl⟩
    · obtain ⟨m, hm, r⟩ := withCls_some h
      exact ⟨m, List.mem_cons_of_mem _ hm, r⟩
theorem withCls_mem {l : Lt} : ∀ {ls : List Lt}, l ∈ ls → ∃ q, withCls ls l.2 = some q
  | m :: ls, h => by
    rw [withCls]
    by_cases e : m.2 = l.2
    · exact ⟨_, by rw [if_pos e]⟩
    · rcases List.mem_cons.1 h with rfl | h
      · exact absurd rfl e
      · obtain ⟨q, hq⟩ := withCls_mem h
        exact ⟨q, by rw [if_neg e]; exact hq⟩
theorem cls_of_mem {ls : List Lt} (hd : Dist ls) {l : Lt} (h : l ∈ ls) : AlphPlain.has ls l.1 = true ∧ clsOf ls l.1 = l.2 := by
  obtain ⟨i, hi⟩ := List.getElem?_of_mem h
  have := hd i l hi
  have hh : AlphPlain.has ls l.1 = true := by simp [AlphPlain.has, this]
  exact ⟨hh, by simp [clsOf, hh, pos, this, List.getD, hi]⟩
theorem dist_of_valid {ls : List Lt} (h : validB ls = true) : Dist ls := by
  simp only [validB, Bool.and_eq_true, decide_eq_true_eq] at h
  exact (cnt_dist _ _ rfl).1 h.2

theorem wf_u32 {a : Int} (h : (Lit.int .u32 a).wf = true) : 0 ≤ a ∧ a < 4294967296 := by
  simp [Lit.wf, IntKind.min, IntKind.max, IntKind.signed, IntKind.bits] at h
  omega

theorem xor_back (a t : Int) (ha : (Lit.int .u32 a).wf = true) (ht : (Lit.int .u32 t).wf = true) : bits .xor .u32 (bits .xor .u32 a t) t = a := by
  obtain ⟨a0, a1⟩ := wf_u32 ha
  obtain ⟨t0, t1⟩ := wf_u32 ht
  rw [u32_xor a t a0 a1 t0 t1]
  have hx : a.toNat ^^^ t.toNat < 2 ^ 32 := Nat.xor_lt_two_pow (by omega) (by omega)
  rw [u32_xor _ t (by omega) (by omega) t0 t1]
  simp only [Int.toNat_natCast, Nat.xor_assoc, Nat.xor_self, Nat.xor_zero]
  omega

theorem partner_back {ls : List Lt} {r t p : Int} (hv : validB ls = true) (hw : ∀ l ∈ ls, (Lit.int .i32 l.1).wf = true ∧ (Lit.int .u32 l.2).wf = true) (ht : (Lit.int .u32 t).wf = true) (h : partner ls r t = some p) :
    (Lit.int .i32 p).wf = true ∧ ∃ q, partner ls p t = some q ∧ (Lit.int .i32 q).wf = true ∧ clsOf ls q = clsOf ls r := by
  have hd := dist_of_valid hv
  unfold partner at h
  split at h
  · rename_i hr
    obtain ⟨l, hl, hlr⟩ := pos_get hr
    have hm : l ∈ ls := List.mem_of_getElem? hl
    have hc : clsOf ls r = l.2 := by simp [clsOf, hr, List.getD, hl]
    obtain ⟨m, hmm, hm2, rfl⟩ := withCls_some h
    obtain ⟨hmh, hmc⟩ := cls_of_mem hd hmm
    refine ⟨(hw m hmm).1, ?_⟩
    have hx : bits .xor .u32 (clsOf ls m.1) t = l.2 := by
      rw [hmc, hm2, hc, xor_back _ _ (hw l hm).2 ht]
    obtain ⟨q, hq⟩ := withCls_mem hm
    obtain ⟨k, hk, hk2, rfl⟩ := withCls_some hq
    refine ⟨k.1, by simp [partner, hmh, hx, hq], (hw k hk).1, ?_⟩
    rw [(cls_of_mem hd hk).2, hk2, hc]
  · cases h
end Go.Proofs.YtjjgfolplpbaiaaDoor
