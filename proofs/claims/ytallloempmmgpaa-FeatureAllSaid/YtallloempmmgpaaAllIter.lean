/-
  All: the iterator over all records with one feature per dimension. Condition: the slice holds the dimensions.
-/
import Derived.Test.YtallloempmmgpaaAllExt
namespace Go.Proofs.Ytallloempmmgpaa
open Go.RowKit Go.Shelf
open FeatPlain

theorem dims_nodup {ds : List Dm} (h : dimsB ds = true) : ds.length ≤ 4 ∧ (ds.map (·.1)).Nodup := by
  simp only [dimsB, Bool.and_eq_true, decide_eq_true_eq] at h
  exact ⟨h.1, ((distB_iff _).1 h.2.2).2⟩

set_option maxHeartbeats 800000 in
theorem all2_any (l B0 N Bo : Nat) (J Jx : List Rc → World → Prop) (hY : Yld B0 N l J Jx) (hJ : ∀ s A B, J s A → Stp B0 s A B → J s B) (va : Option Addr) (n vc : Nat) (ds : List Dm) (W : World)
    (hc : W.cell? ⟨Bo, 0, none⟩ = some (.slice va n vc)) (hdi : Di W va n vc ds) (hv : dimsB ds = true) (hN : (allR [] ds).length ≤ N) (hB : B0 ≤ W.heap.size) (h0 : J [] W) :
    Calls Try.prog 27 #[.func (.yield l) #[] #[], .pointer (some ⟨Bo, 0, none⟩)] W (fun e B => (∃ v, e = .returned v) ∧ ((∃ xs : List Rc, xs.map (·.2) = allR [] ds ∧ J xs B) ∨ (∃ pre : List Rc, pre.map (·.2) <+: allR [] ds ∧ Jx pre B))) := by
  have hln := hdi.len
  have hx := ext_any l B0 N J Jx hY hJ ds [] [] (.slice none 0 0) va vc W h0 (fun x h => by cases h) (fun x h => by cases h) (World.ownsRow_nil _ _ _ _) (by rw [hln]; exact hdi) (by simpa using (dims_nodup hv).1) (by simpa using (dims_nodup hv).2) (by simpa using hN) hB
  rw [hln] at hx
  have HX := Lib.hid hx
  clear hx hY hJ h0 hdi hln
  go_enter Try.func27, Try.ntmps27
  go_wp2_with fail
  refine HX.out.mono ?_
  rintro e w1 (⟨rfl, new, h1, h2, _⟩ | ⟨rfl, new, h1, h2⟩)
  · go_wp2
    go_end0
    exact ⟨⟨_, rfl⟩, .inl ⟨new, h1, by simpa using h2⟩⟩
  · go_wp2
    go_end0
    exact ⟨⟨_, rfl⟩, .inr ⟨new, h1, by simpa using h2⟩⟩

theorem all2_seq (n : Nat) (B0 N Bo : Nat) (va : Option Addr) (m vc : Nat) (ds : List Dm) (w : World) (bx : Boxed w Bo 22 (.slice va m vc)) (hdi : Di w va m vc ds) (hv : dimsB ds = true) (hN : (allR [] ds).length ≤ N) (hB : B0 ≤ w.heap.size) :
    SeqY Fence.wide n Try.prog 27 #[.pointer (some ⟨Bo, 0, none⟩)] (fun x : Rc => #[x.1]) (Kq B0) (Stp B0) (fun x W => Rec W x) (fun xs => xs.map (·.2) = allR [] ds) (fun pre => pre.map (·.2) <+: allR [] ds) N w := fun l J Jx W hW hJ _ hY h0 => by
  have hA : Aft w W := hW
  have k : Chg [] 0 w W := Chg.of_aft hA (Nat.zero_le _)
  exact callsIn_wide.2 (all2_any l B0 N Bo J Jx (fun m pre x A h1 h2 h3 => yield_free m (hY pre x A h1 h2 h3)) hJ va m vc ds W (k.box bx (by simp)).cell (hdi.chg k (by simp) (by simp)) hv hN (Nat.le_trans hB hA.size) h0)

theorem all1_seq (n : Nat) (B0 N : Nat) (w : World) :
    SeqY Fence.wide n Try.prog 25 #[] (fun x : Rc => #[x.1]) (Kq B0) (Stp B0) (fun x W => Rec W x) (fun xs => xs.map (·.2) = []) (fun pre => pre.map (·.2) <+: []) N w := fun l J Jx W _ _ _ _ h0 => by
  refine callsIn_wide.2 ?_
  go_enter Try.func25, Try.ntmps25
  go_wp2
  go_end0
  exact ⟨⟨_, rfl⟩, .inl (by first | exact h0 | exact ⟨[], rfl, h0⟩)⟩

set_option maxHeartbeats 800000 in
theorem all_good_any (A : Option Addr) (n c : Nat) (ds : List Dm) (w : World) (ha : Dd w A n c ds) (hv : dimsB ds = true) :
    Calls Try.prog 15 #[.slice A n c] w (fun e w' => ∃ Bo va vc, e = .returned (.func (.func 27) #[] #[.pointer (some ⟨Bo, 0, none⟩)]) ∧ Boxed w' Bo 22 (.slice va n vc) ∧ Di w' va n vc ds ∧ Aft w w') := by
  have h1 := validD_any A n c ds w ha
  rw [hv] at h1
  go_enter Try.func15, Try.ntmps15
  go_wp2_with fail
  refine h1.mono ?_
  rintro e w1 ⟨rfl, A1⟩
  clear h1
  have h2 := cloneD_any A n c ds w1 (ha.aft A1) hv
  go_wp2_with fail
  refine h2.mono ?_
  rintro e w2 ⟨va, vc, rfl, hdi, A2⟩
  clear h2
  have bx := Boxed.new w2 22 (.slice va n vc)
  have hdi2 := hdi.chg (ts := []) (B := 0) (Chg.of_aft ((Aft.refl w2).alloc (.cells #[.slice va n vc] 22)) (Nat.zero_le _)) (by simp) (by simp)
  have HDI := Lib.hid hdi2
  clear hdi hdi2
  go_wp2
  go_ret
  exact ⟨_, va, vc, rfl, bx, HDI.out, (A1.trans A2).alloc _⟩

theorem all_bad_any (A : Option Addr) (n c : Nat) (ds : List Dm) (w : World) (ha : Dd w A n c ds) (hv : dimsB ds = false) :
    Calls Try.prog 15 #[.slice A n c] w (fun e w' => e = .returned (.func (.func 25) #[] #[]) ∧ Aft w w') := by
  have h1 := validD_any A n c ds w ha
  rw [hv] at h1
  go_enter Try.func15, Try.ntmps15
  go_wp2_with fail
  refine h1.mono ?_
  rintro e w1 ⟨rfl, A1⟩
  clear h1
  go_wp2
  go_ret
  exact ⟨rfl, A1⟩
end Go.Proofs.Ytallloempmmgpaa
