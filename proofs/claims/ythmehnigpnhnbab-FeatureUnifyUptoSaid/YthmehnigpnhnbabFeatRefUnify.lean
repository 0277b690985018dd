/-
  The reference's Unify puts the features of the second list into the first one, or fails at the first name with two values; on records it is the unification. Condition: the slices hold the features, at most 2^39 each.
-/
import Derived.Test.YthmehnigpnhnbabFeatPut
namespace Go.Proofs.Ythmehnigpnhnbab
open Go.RowKit
open FeatPlain

/-- What the reference's loop does with the rest of the second list. -/
def refU (xs : List Ft) : List Ft → List Ft → Option (List Ft)
  | [], out => some out
  | g :: ys, out => match idx xs g.1 with
    | none => refU xs ys (put g out)
    | some _ => if hasB xs g then refU xs ys out else none

theorem put_mem (f : Ft) : ∀ (r : List Ft) (x : Ft), x ∈ put f r ↔ x = f ∨ x ∈ r
  | [], x => by simp [put]
  | g :: l, x => by
    rw [put]
    split
    · rw [List.mem_cons, put_mem f l x, List.mem_cons]
      constructor
      · rintro (h | h | h)
        · exact .inr (.inl h)
        · exact .inl h
        · exact .inr (.inr h)
      · rintro (h | h | h)
        · exact .inr (.inl h)
        · exact .inl h
        · exact .inr (.inr h)
    · rw [List.mem_cons]

theorem put_asc {f : Ft} : ∀ {r : List Ft}, Asc r → (∀ g ∈ r, g.1 ≠ f.1) → Asc (put f r)
  | [], _, _ => by simp [put, Asc]
  | g :: l, h, hn => by
    rw [put]
    split
    · rename_i hl
      refine asc_cons (fun x hx => ?_) (put_asc (asc_tail h) fun x hx => hn x (List.mem_cons_of_mem _ hx))
      rcases (put_mem f l x).1 hx with rfl | hx
      · exact hl
      · exact asc_head h hx
    · rename_i hl
      have hfg : lt f.1 g.1 = true := by
        cases e : lt f.1 g.1
        · exact absurd (lt_total (by simpa using hl) e) (hn g (by simp))
        · rfl
      refine asc_cons (fun x hx => ?_) h
      rcases List.mem_cons.1 hx with rfl | hx
      · exact hfg
      · exact lt_trans hfg (asc_head h hx)

theorem put_length (f : Ft) : ∀ r : List Ft, (put f r).length = r.length + 1
  | [] => rfl
  | g :: l => by
    rw [put]
    split
    · simp [put_length f l]
    · simp

def RefOk (xs ys out : List Ft) : Option (List Ft) → Prop
  | none => Clash xs ys
  | some u => Asc u ∧ ∀ f, f ∈ u ↔ f ∈ out ∨ f ∈ ys

theorem refU_spec {xs : List Ft} (ax : Asc xs) : ∀ (ys out : List Ft), Asc ys → Asc out → (∀ f ∈ xs, f ∈ out) → (∀ h ∈ out, h ∈ xs ∨ ∀ g ∈ ys, h.1 ≠ g.1) → RefOk xs ys out (refU xs ys out)
  | [], out, _, ao, _, _ => by
    rw [refU]
    exact ⟨ao, by simp⟩
  | g :: ys, out, ay, ao, hsub, hsep => by
    rw [refU]
    cases hi : idx xs g.1 with
    | none =>
      simp only
      have hno : ∀ h ∈ out, h.1 ≠ g.1 := fun h hh => (hsep h hh).elim (fun hx => idx_no hi h hx) fun k => k g (by simp)
      have ih := refU_spec ax ys (put g out) (asc_tail ay) (put_asc ao hno) (fun f hf => (put_mem g out f).2 (.inr (hsub f hf))) (fun h hh => by
        rcases (put_mem g out h).1 hh with rfl | hh
        · exact .inr fun x hx e => by have := asc_head ay hx; rw [e, lt_irrefl] at this; cases this
        · exact (hsep h hh).imp id fun k x hx => k x (List.mem_cons_of_mem _ hx))
      cases hr : refU xs ys (put g out) with
      | none =>
        rw [hr] at ih
        obtain ⟨f, hf, h, hh, e, ne⟩ := ih
        exact ⟨f, hf, h, List.mem_cons_of_mem _ hh, e, ne⟩
      | some u =>
        rw [hr] at ih
        refine ⟨ih.1, fun f => ?_⟩
        rw [ih.2 f, put_mem, List.mem_cons]
        constructor
        · rintro ((h | h) | h)
          · exact .inr (.inl h)
          · exact .inl h
          · exact .inr (.inr h)
        · rintro (h | h | h)
          · exact .inl (.inr h)
          · exact .inl (.inl h)
          · exact .inr h
    | some k =>
      simp only
      obtain ⟨x, hx, hn⟩ := idx_some hi
      have hxm := List.mem_of_getElem? hx
      by_cases hh : hasB xs g = true
      · rw [if_pos hh]
        have hgx : g ∈ xs := (hasB_iff ax g).1 hh
        have ih := refU_spec ax ys out (asc_tail ay) ao hsub (fun h hh => (hsep h hh).imp id fun k x hx => k x (List.mem_cons_of_mem _ hx))
        cases hr : refU xs ys out with
        | none =>
          rw [hr] at ih
          obtain ⟨f, hf, h, hh, e, ne⟩ := ih
          exact ⟨f, hf, h, List.mem_cons_of_mem _ hh, e, ne⟩
        | some u =>
          rw [hr] at ih
          refine ⟨ih.1, fun f => ?_⟩
          rw [ih.2 f, List.mem_cons]
          constructor
          · rintro (h | h)
            · exact .inl h
            · exact .inr (.inr h)
          · rintro (h | h | h)
            · exact .inl h
            · rw [h]; exact .inl (hsub g hgx)
            · exact .inr h
      · rw [if_neg hh]
        refine ⟨x, hxm, g, by simp, hn, fun e => hh ?_⟩
        have : x = g := Prod.ext hn e
        rw [← this]
        exact (hasB_iff ax x).2 hxm

theorem refU_unify {xs ys : List Ft} (ax : Asc xs) (ay : Asc ys) : refU xs ys xs = unify xs ys := by
  have h := refU_spec ax ys xs ay ax (fun _ h => h) (fun _ h => .inl h)
  cases hr : refU xs ys xs with
  | none =>
    rw [hr] at h
    cases hu : unify xs ys with
    | none => rfl
    | some u =>
      have k := unify_some ax ay hu
      exact absurd h (no_clash k.1 k.2)
  | some u =>
    rw [hr] at h
    exact (unify_eq_some ax ay h.1 h.2).symm

theorem ref_new {xs ys out : List Ft} {k : Nat} {g : Ft} (h : refU xs ys xs = refU xs (ys.drop k) out) (hg : ys[k]? = some g) (hi : idx xs g.1 = none) : refU xs ys xs = refU xs (ys.drop (k + 1)) (put g out) := by
  rw [h, drop_of_get hg, refU, hi]
theorem ref_old {xs ys out : List Ft} {k j : Nat} {g : Ft} (h : refU xs ys xs = refU xs (ys.drop k) out) (hg : ys[k]? = some g) (hi : idx xs g.1 = some j) (hh : hasB xs g = true) : refU xs ys xs = refU xs (ys.drop (k + 1)) out := by
  rw [h, drop_of_get hg, refU, hi]; simp [hh]
theorem ref_clash {xs ys out : List Ft} {k j : Nat} {g : Ft} (h : refU xs ys xs = refU xs (ys.drop k) out) (hg : ys[k]? = some g) (hi : idx xs g.1 = some j) (hh : hasB xs g = false) : refU xs ys xs = none := by
  rw [h, drop_of_get hg, refU, hi]; simp [hh]

set_option maxRecDepth 100000 in
set_option maxHeartbeats 3200000 in
theorem refUnify_any (A : Option Addr) (n c : Nat) (xs : List Ft) (B : Option Addr) (m d : Nat) (ys : List Ft) (w : World) (ha : Sl w A n c xs) (hb : Sl w B m d ys) (hsz : n + m ≤ 1099511627776) :
    Calls Try.prog 19 #[.slice A n c, .slice B m d] w (UnifyPost w (refU xs ys xs)) := by
  have hnc := ha.le
  have hcm := ha.cmax
  have hmd := hb.le
  have hlen := Lib.hid ha.len
  have hlenb := Lib.hid hb.len
  obtain ⟨i0, hi, hz0, hz1, hz2⟩ := info_parts Try.infoF
  have own0 : (w.alloc (.cells #[] 29)).ownsRow w.heap.size 29 2 (.slice (some ⟨w.heap.size, 0, none⟩) 0 0) 0 [] := World.ownsRow_lit w #[] 0 (Nat.le_refl _) (by unfold maxLen; omega) rfl
  have HO := Lib.hid own0
  clear own0
  go_enter Try.func19, Try.ntmps19
  go_wp2_with (at_builtin; refine wpList_append_any rfl _ _ 22 rfl w.heap.size 29 i0 _ 2 32 Try.underlying22 hi hz0 hz1 hz2 rfl (by decide) _ _ _ rfl HO.out A n c (flat xs) rfl (by rw [flat_length, hlen.out]) (fun e => ⟨ha.len0 e, ha.nl e⟩) (ha.aft ((Aft.refl w).alloc _)).flatCells (flat_one _) (by unfold maxLen; omega) (by omega) (by simp) ?_; intro v0 w1 own1 grow1)
  have A1 : Aft w w1 := ((Aft.refl w).alloc _).grown grow1 (fun r hr => (HO.out.lt r hr).1)
  have own1' : w1.ownsRow w.heap.size 29 2 v0 n (flat xs) := by rw [Nat.zero_add, List.nil_append] at own1; exact own1
  obtain ⟨U, uc, rfl, su⟩ := Sl.of_row own1' hlen.out (by omega)
  clear own1 own1' grow1
  go_loopw [6, 7] (fun v i wr => ∃ k U un uc out, v = .slice U un uc ∧ k ≤ m ∧ i = .int .i64 (k : Nat) ∧ Sl wr U un uc out ∧ un ≤ n + k ∧ refU xs ys xs = refU xs (ys.drop k) out ∧ Aft w wr) (fun _ i _ => m - (intOf i).toNat)
  case atStart => exact ⟨0, U, n, uc, xs, rfl, Nat.zero_le _, rfl, su, by omega, by simp, A1⟩
  case round =>
    obtain ⟨k, U, un, uc, out, rfl, hk, rfl, so, hun, eq, haf⟩ := hrel
    have HE := Lib.hid eq
    clear eq su A1
    by_cases hlt : k < m
    · obtain ⟨b, off, g, rfl, hg, h1, h2⟩ := hb.at_ hlt
      have c1 := haf.cell h1
      have c2 := haf.cell h2
      have HG := Lib.hid hg
      clear hg h1 h2
      cases hi' : idx xs g.1 with
      | none =>
        have HI := Lib.hid hi'
        clear hi'
        go_wp2_with fail
        have hc := index_any A n c xs g.1 wr (ha.aft haf)
        rw [HI.out] at hc
        refine hc.mono ?_
        rintro e w' ⟨rfl, rfl⟩
        clear hc
        go_wp2
        go_quiet (fail)
        go_wp2_with fail
        refine (put_any U un uc out g _ (so.drewN _) (by omega)).mono ?_
        rintro e w2 ⟨⟨V, vn, vc, rfl, sv⟩, A2⟩
        have hvn : vn ≤ n + (k + 1) := by have h1 := sv.len; have h2 := so.len; rw [put_length] at h1; omega
        go_wp2
        go_roundw
        case rel => exact ⟨k + 1, V, vn, vc, put g out, rfl, by omega, by go_num, sv, hvn, ref_new HE.out HG.out HI.out, (haf.drewN _).trans A2⟩
        case measure => simp [intOf]; omega
      | some j =>
        obtain ⟨x, hx, hxn⟩ := idx_some hi'
        have hjn : j < n := by rw [← hlen.out]; exact (List.getElem?_eq_some_iff.1 hx).1
        obtain ⟨b2, off2, x', rfl, hx', x1, x2⟩ := ha.at_ hjn
        rw [hx] at hx'
        cases hx'
        have d2 := haf.cell x2
        have HI := Lib.hid hi'
        have HX := Lib.hid hx
        have hj0 : (0 : Int) ≤ (j : Int) := by omega
        have hj1 : ¬ (j : Int) < 0 := by omega
        clear hi' hx hxn x1 x2
        by_cases hv : x.2 = g.2
        · have hq : (x.2.toList == g.2.toList) = true := by rw [hv]; simp
          have HH := Lib.hid (show hasB xs g = true by rw [hasB_some HI.out HX.out]; simp [hv])
          clear hv
          go_wp2_with fail
          have hc := index_any _ n c xs g.1 wr (ha.aft haf)
          rw [HI.out] at hc
          refine hc.mono ?_
          rintro e w' ⟨rfl, rfl⟩
          clear hc
          go_wp2
          go_quiet (fail)
          go_wp2
          go_roundw
          case rel => exact ⟨k + 1, U, un, uc, out, rfl, by omega, by go_num, so.drewN _, by omega, ref_old HE.out HG.out HI.out HH.out, haf.drewN _⟩
          case measure => simp [intOf]; omega
        · have hq : (x.2.toList == g.2.toList) = false := by rw [toList_beq]; simp [hv]
          have HH := Lib.hid (show hasB xs g = false by rw [hasB_some HI.out HX.out]; simp [hv])
          go_wp2_with fail
          have hc := index_any _ n c xs g.1 wr (ha.aft haf)
          rw [HI.out] at hc
          refine hc.mono ?_
          rintro e w' ⟨rfl, rfl⟩
          clear hc
          go_wp2
          go_quiet (fail)
          go_wp2
          go_ret2
          refine ⟨haf.drewN _, ?_⟩
          rw [ref_clash HE.out HG.out HI.out HH.out]
          rfl
    · obtain rfl : k = m := by omega
      go_wp2
      go_ret2
      refine ⟨haf, ?_⟩
      rw [HE.out, List.drop_of_length_le (by rw [hlenb.out]; exact Nat.le_refl _), refU]
      exact ⟨_, _, _, rfl, so⟩
end Go.Proofs.Ythmehnigpnhnbab
