/-
  take returns the first records of All. Conditions: the slice holds the dimensions; the number is from 1 to 5000.
-/
import Derived.Test.YtallloempmmgpaaAllTake
import Derived.Maps.AppendAt
namespace Go.Proofs.Ytallloempmmgpaa
open Go.RowKit Go.Shelf
open FeatPlain

attribute [local go_sem] Oper.semAt_some

theorem pre_take {α : Type} {p l : List α} (h : p <+: l) : p = l.take p.length := by
  obtain ⟨t, rfl⟩ := h
  simp

def TakePost (w : World) (ess : List (List Ft)) (e : Ending) (w' : World) : Prop := (∃ a n c, e = .returned (.slice a n c) ∧ Sls w' a n c ess) ∧ Aft w w'

set_option maxRecDepth 100000 in
set_option maxHeartbeats 3200000 in
theorem take_of (A : Option Addr) (n c : Nat) (ds : List Dm) (k : Nat) (w : World) (hk : 1 ≤ k) (hk5 : k ≤ 5000) (gf : Nat)
    (eg : ∀ args w, (callFunc gf args).run Try.prog w = .ok (.enter gf args) w)
    (hall : Calls Try.prog 15 #[.slice A n c] ((w.alloc (.cells #[.int .i64 (k : Nat)] 3)).alloc (.cells #[.slice none 0 0] 24)) (fun e w' => ∃ lb, e = .returned (.func (.func gf) #[] lb) ∧ SeqY Fence.wide 2 Try.prog gf lb (fun x : Rc => #[x.1]) (Kq w.heap.size) (Stp w.heap.size) (fun x W => Rec W x) (fun xs => xs.map (·.2) = allD ds) (fun pre => pre.map (·.2) <+: allD ds) 4096 w' ∧ Aft ((w.alloc (.cells #[.int .i64 (k : Nat)] 3)).alloc (.cells #[.slice none 0 0] 24)) w')) :
    Calls Try.prog 7 #[.slice A n c, .int .i64 (k : Nat)] w (TakePost w ((allD ds).take k)) := by
  obtain ⟨i0, hi, hz0, hz1, hz2⟩ := info_parts Try.infoR
  have hal := Lib.hid (allD_length ds)
  have hk0 : ¬ (k : Int) ≤ 0 := by omega
  have bN := (Boxed.new w 3 (.int .i64 (k : Nat))).alloc (.cells #[.slice none 0 0] 24)
  have bO := Boxed.new (w.alloc (.cells #[.int .i64 (k : Nat)] 3)) 24 (.slice none 0 0)
  rw [World.size_alloc] at bO
  have A0 : Aft w ((w.alloc (.cells #[.int .i64 (k : Nat)] 3)).alloc (.cells #[.slice none 0 0] 24)) := ((Aft.refl w).alloc _).alloc _
  have hs0 : w.heap.size + 1 < ((w.alloc (.cells #[.int .i64 (k : Nat)] 3)).alloc (.cells #[.slice none 0 0] 24)).heap.size := by simp
  have kN := bN.cell
  have HA := Lib.hid hall
  clear hall
  refine (callsIn_wide (n := 3)).1 ?_
  refine callsIn_of_wp_marks Try.func7 rfl trivial ?_ rfl
  simp only [Try.ntmps7, List.size_toArray, List.length_cons, List.length_nil, Nat.reduceAdd, Nat.reduceSub, Array.replicate_succ, Array.replicate_zero, List.push_toArray, List.append_toArray, List.nil_append, List.cons_append]
  gi_wp2_with (refine ⟨trivial, ?_⟩; gi_at_call 15; refine (callsIn_wide.2 HA.out).mono ?_; clear HA; rintro e' W0 ⟨lb, rfl, hseq, A1⟩)
  have k0 := Chg.of_aft (ts := []) (B := 0) A1 (Nat.zero_le _)
  have bN' := k0.box bN (by simp)
  have bO' := k0.box bO (by simp)
  have hW0 : w.heap.size + 1 < W0.heap.size := Nat.lt_of_lt_of_le hs0 A1.size
  have A01 := A0.trans A1
  refine name_actIn (fun a0 ha0 => ?_)
  refine range_sl rfl (by omega) (gf := gf) (lb := lb) (by rw [ha0]; rfl) trivial eg hseq (fun _ => rfl) (fun h k => h.trans k) (kq_keeps (by omega)) (fun s A B h => ⟨h.oth.size, fun i o _ hi ho => h.oth.same i o (Nat.zero_le _) hi ho⟩) (fun x A B row h hg hr => h.own hg (fun r e => (hr r e).2))
    (fun pre W => TInv w (k : Nat) pre W ∧ pre.length < k) (fun c pre W => (∃ id, c = .exit id ∧ id = 0) ∧ TInv w (k : Nat) pre W ∧ pre.length = k)
    (fun s A B row h hg hr => ⟨TInv.own hW0 s A B row h.1 hg hr, h.2⟩) (fun c s A B row h hg hr => ⟨h.1, TInv.own hW0 s A B row h.2.1 hg hr, h.2.2⟩) (fun s A B h k => ⟨h.1.stp k, h.2⟩) (fun c s A B h k => ⟨h.1, h.2.1.stp k, h.2.2⟩) ⟨⟨⟨none, 0, bO', World.ownsRow_nil _ _ _ _⟩, (fun x h => by cases h), bN', A01⟩, hk⟩
    (fun x => { tmps := (a0.tmps.setIfInBounds 12 x.1).setIfInBounds 6 x.1, defers := [] }) ?assign ?body ?done ?stop
  case assign =>
    intro l x W K hK
    subst ha0
    dsimp only at hK ⊢
    gi_wp2
    exact hK
  case body =>
    rintro l pre x W ⟨hI, hlk⟩ hlen hrec
    obtain ⟨a, c', h1, h2⟩ := hI.ex
    have hs := hI.aft.size
    have kb := h1.cell
    have kn := hI.num.cell
    obtain ⟨xa, xn, xc, hx1, hx2⟩ : ∃ xa xn xc, x.1 = .slice xa xn xc ∧ True := by obtain ⟨xa, xn, xc, e, _⟩ := hrec; exact ⟨xa, xn, xc, e, trivial⟩
    have HI := Lib.hid hI
    have HR := Lib.hid hrec
    have HX := Lib.hid hx1
    have hap : ∀ w1 g1 c1, w1.ownsRow w.heap.size 31 1 (.slice (some ⟨g1, 0, none⟩) (pre.length + 1) c1) (pre.length + 1) (pre.map (·.1) ++ [.slice xa xn xc]) → (W.alloc (.cells #[.slice xa xn xc] 31)).grownBy w1 (Value.slice a pre.length c').ownBlock → _ := fun w1 g1 c1 o1 gr1 => TInv.next HI.out HR.out h1 h2 (by rw [HX.out]; exact o1) gr1
    have HAP := Lib.hid hap
    clear hap hrec hI hx2
    by_cases hlast : pre.length + 1 = k
    · have q1 : (((pre.length : Int) + 1) == (k : Int)) = true := by rw [beq_iff_eq]; omega
      have q2 : ((pre.length : Int) + 1) = (k : Int) := by omega
      have HL := Lib.hid hlast
      clear hlast
      subst ha0
      rw [hx1]
      dsimp only
      simp only [List.setIfInBounds_toArray, List.set_cons_zero, List.set_cons_succ]
      clear q2
      gi_wp2_with (gi_at_builtin; refine wpListIn_append_own _ rfl _ _ 24 rfl w.heap.size 31 i0 _ 1 24 Try.underlying24 hi hz0 hz1 hz2 rfl (by decide) _ _ _ rfl (h2.alloc _) ⟨W.heap.size, 0, none⟩ 1 1 [.slice xa xn xc] rfl rfl (cell_one_new _ _ _) (by simp [Value.oneCell']) (by unfold maxLen; omega) (by omega) (by simp; omega) ?_; intro v' w1 own1 grow1 _; obtain ⟨g1, c1, rfl⟩ := ownsRow_succ own1; obtain ⟨b1, T1, K1, O1⟩ := HAP.out w1 g1 c1 own1 grow1; have hc1 := b1.cell; have hf1 := b1.frozen; have hn1 := T1.num.cell; have hb2 := (b1.set (.slice (some ⟨g1, 0, none⟩) (pre.length + 1) c1)).cell)
      exact ⟨O1.from _, ⟨0, rfl, rfl⟩, T1, by rw [List.length_append]; exact HL.out⟩
    · have q1 : (((pre.length : Int) + 1) == (k : Int)) = false := by rw [beq_eq_false_iff_ne]; omega
      have q2 : ¬ ((pre.length : Int) + 1) = (k : Int) := by omega
      subst ha0
      rw [hx1]
      dsimp only
      simp only [List.setIfInBounds_toArray, List.set_cons_zero, List.set_cons_succ]
      gi_wp2_with (gi_at_builtin; refine wpListIn_append_own _ rfl _ _ 24 rfl w.heap.size 31 i0 _ 1 24 Try.underlying24 hi hz0 hz1 hz2 rfl (by decide) _ _ _ rfl (h2.alloc _) ⟨W.heap.size, 0, none⟩ 1 1 [.slice xa xn xc] rfl rfl (cell_one_new _ _ _) (by simp [Value.oneCell']) (by unfold maxLen; omega) (by omega) (by simp; omega) ?_; intro v' w1 own1 grow1 _; obtain ⟨g1, c1, rfl⟩ := ownsRow_succ own1; obtain ⟨b1, T1, K1, O1⟩ := HAP.out w1 g1 c1 own1 grow1; have hc1 := b1.cell; have hf1 := b1.frozen; have hn1 := T1.num.cell; have hb2 := (b1.set (.slice (some ⟨g1, 0, none⟩) (pre.length + 1) c1)).cell)
      exact ⟨O1.from _, K1, T1, by rw [List.length_append, List.length_singleton]; omega⟩
  case done =>
    rintro D xs W hD hxs ⟨hI, hlt⟩ hK
    have hI2 := TInv.own hW0 xs W _ (some D) hI (grownBy_putObj' W D (.deferred none)) (fun r e => by cases e; exact ⟨hD, _, hK, rfl⟩)
    obtain ⟨a, c', kb2, hsl⟩ := hI2.sls
    have hDl := (Array.getElem?_eq_some_iff.1 hK).1
    have hlt1 : w.heap.size + 1 < W.heap.size := by omega
    have hne1 : w.heap.size + 1 ≠ D := by omega
    have kb : W.cell? ⟨w.heap.size + 1, 0, none⟩ = some (.slice a xs.length c') := (World.cell?_of_block (a := ⟨w.heap.size + 1, 0, none⟩) ((grownBy_putObj' W D (.deferred none)).block (w.heap.size + 1) hlt1 (fun e => hne1 (Option.some.inj e)))).symm.trans kb2
    have hess : (allD ds).take k = xs.map (·.2) := by rw [hxs, List.take_of_length_le]; rw [← hxs, List.length_map]; omega
    have HE := Lib.hid hess
    have HS := Lib.hid hsl
    clear hess hsl hxs
    subst ha0
    gi_wp2
    refine ⟨by simp, .inl ⟨_, _, rfl, run_takeDeferred hK, ?_⟩⟩
    exact ⟨_, results_tmp rfl _ _ _, ⟨_, _, _, rfl, by rw [HE.out]; exact HS.out⟩, hI2.aft⟩
  case stop =>
    rintro D cd pre W hD hpre ⟨⟨id, rfl, rfl⟩, hI, hlen⟩ hK
    have hI2 := TInv.own hW0 pre W _ (some D) hI (grownBy_putObj' W D (.deferred none)) (fun r e => by cases e; exact ⟨hD, _, hK, rfl⟩)
    obtain ⟨a, c', kb2, hsl⟩ := hI2.sls
    have hDl := (Array.getElem?_eq_some_iff.1 hK).1
    have hlt1 : w.heap.size + 1 < W.heap.size := by omega
    have hne1 : w.heap.size + 1 ≠ D := by omega
    have kb : W.cell? ⟨w.heap.size + 1, 0, none⟩ = some (.slice a pre.length c') := (World.cell?_of_block (a := ⟨w.heap.size + 1, 0, none⟩) ((grownBy_putObj' W D (.deferred none)).block (w.heap.size + 1) hlt1 (fun e => hne1 (Option.some.inj e)))).symm.trans kb2
    have hess : (allD ds).take k = pre.map (·.2) := by have := pre_take hpre; rw [List.length_map, hlen] at this; exact this.symm
    have HE := Lib.hid hess
    have HS := Lib.hid hsl
    clear hess hsl hpre hlen
    subst ha0
    gi_wp2
    refine ⟨by simp, .inl ⟨_, _, rfl, run_takeDeferred hK, ?_⟩⟩
    exact ⟨_, results_tmp rfl _ _ _, ⟨_, _, _, rfl, by rw [HE.out]; exact HS.out⟩, hI2.aft⟩

theorem take_any (A : Option Addr) (n c : Nat) (ds : List Dm) (k : Nat) (w : World) (ha : Dd w A n c ds) (hk : 1 ≤ k) (hk5 : k ≤ 5000) :
    Calls Try.prog 7 #[.slice A n c, .int .i64 (k : Nat)] w (TakePost w ((allD ds).take k)) := by
  have A0 : Aft w ((w.alloc (.cells #[.int .i64 (k : Nat)] 3)).alloc (.cells #[.slice none 0 0] 24)) := ((Aft.refl w).alloc _).alloc _
  cases hv : dimsB ds
  · refine take_of A n c ds k w hk hk5 25 (enters_of Try.func25 (by kernel_rfl) rfl) ((all_bad_any A n c ds _ (ha.aft A0) hv).mono ?_)
    rintro e w1 ⟨rfl, A1⟩
    have he : allD ds = [] := by simp [allD, hv]
    rw [he]
    exact ⟨#[], rfl, all1_seq 2 w.heap.size 4096 w1, A1⟩
  · refine take_of A n c ds k w hk hk5 27 (enters_of Try.func27 (by kernel_rfl) rfl) ((all_good_any A n c ds _ (ha.aft A0) hv).mono ?_)
    rintro e w1 ⟨Bo, va, vc, rfl, bx, hdi, A1⟩
    have hl := allD_length ds
    have he : allD ds = allR [] ds := by simp [allD, hv]
    rw [he] at hl ⊢
    exact ⟨_, rfl, all2_seq 2 w.heap.size 4096 Bo va n vc ds w1 bx hdi hv hl (A0.trans A1).size, A1⟩
end Go.Proofs.Ytallloempmmgpaa
