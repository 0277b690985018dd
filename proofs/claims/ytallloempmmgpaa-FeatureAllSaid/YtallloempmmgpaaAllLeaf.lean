/-
  extend where no dimension is left: it hands out the sorted record of the chosen features. Conditions: the row holds the chosen features, at most 4, with distinct names.
-/
import Derived.Test.YtallloempmmgpaaAllApp
namespace Go.Proofs.Ytallloempmmgpaa
open Go.RowKit Go.Shelf
open FeatPlain

attribute [local go_sem] Oper.semAt_some

theorem room_free {F : Fence} (hd : F.depth = none) (k : Nat) : F.room k := fun d h => by rw [hd] at h; cases h
theorem yield_free {m : Nat} (m' : Nat) {P : Program} {l : Nat} {args : Array Value} {W : World} {R : Ending → World → Prop} (h : YieldAt Fence.wide m P l args W R) : YieldAt Fence.wide m' P l args W R := by
  obtain ⟨fn, tmps, assign, body, hy, hR⟩ := h
  exact ⟨fn, tmps, assign, body, hy, hR.1, fun c cs _ => hR.2 c cs (room_free rfl _)⟩

/-- What extend leaves. -/
def EPost (B0 : Nat) (J Jx : List Rc → World → Prop) (pre : List Rc) (ch : List Ft) (v : Value) (ds : List Dm) (W : World) (e : Ending) (B : World) : Prop :=
  (e = .returned (.bool true) ∧ ∃ new : List Rc, new.map (·.2) = allR ch ds ∧ J (pre ++ new) B ∧ New W B new ∧ B.ownsRow B0 30 2 v ch.length (flat ch) ∧ Ev B0 W B ∧ Keep v W B) ∨
  (e = .returned (.bool false) ∧ ∃ new : List Rc, new.map (·.2) <+: allR ch ds ∧ Jx (pre ++ new) B)
/-- What a round does. -/
abbrev Yld (B0 N l : Nat) (J Jx : List Rc → World → Prop) : Prop := ∀ (m : Nat) (pre : List Rc) (x : Rc) (A : World), J pre A → pre.length < N → Rec A x → YieldAt Fence.wide m Try.prog l #[x.1] A fun e B => (e = .returned (.bool true) ∧ J (pre ++ [x]) B ∧ Kq B0 A B) ∨ (e = .returned (.bool false) ∧ Jx (pre ++ [x]) B)

set_option maxRecDepth 100000 in
set_option maxHeartbeats 3200000 in
theorem ext_leaf (l B0 N : Nat) (J Jx : List Rc → World → Prop) (hY : Yld B0 N l J Jx) (hJ : ∀ s A B, J s A → Stp B0 s A B → J s B) (pre : List Rc) (ch : List Ft) (v : Value) (A : Option Addr) (c : Nat) (W : World)
    (hj : J pre W) (own : W.ownsRow B0 30 2 v ch.length (flat ch)) (hc4 : ch.length ≤ 4) (hnd : (ch.map (·.1)).Nodup) (hN : pre.length < N) (hB : B0 ≤ W.heap.size) :
    Calls Try.prog 28 #[v, .slice A 0 c, .func (.yield l) #[] #[]] W (EPost B0 J Jx pre ch v [] W) := by
  obtain ⟨K, hK⟩ : ∃ K, K = ch.length := ⟨_, rfl⟩
  have hsl := Sl.of_row own rfl (by omega)
  have HO := Lib.hid own
  rw [← hK] at hsl
  obtain ⟨va, vc, rfl, hsl⟩ := hsl
  have hlo : ∀ b off, va = some ⟨b, off, none⟩ → b < W.heap.size := fun b off e => (HO.out.lt b (by rw [e]; rfl)).2
  have AL : Aft W (W.alloc (.cells #[.slice va K vc] 31)) := (Aft.refl W).alloc _
  have bx := Boxed.new W 31 (.slice va K vc)
  have HV := Lib.hid (values_any (.slice va K vc) va K vc rfl W)
  have HS := Lib.hid (sorted_any W.heap.size va vc K ch _ bx.cell (hsl.aft AL) (fun b off e => Nat.lt_of_lt_of_le (hlo b off e) AL.size) (by omega) hnd)
  have HY := Lib.hid hY
  have HJ := Lib.hid (hJ pre W)
  have HK := Lib.hid hK
  have hjj := Lib.hid hj
  clear hY hJ hK own hj
  refine (callsIn_wide (n := 3)).1 ?_
  refine callsIn_of_wp Try.func28 rfl trivial ?_ rfl
  simp only [Try.ntmps28, List.size_toArray, List.length_cons, List.length_nil, Nat.reduceAdd, Nat.reduceSub, Array.replicate_succ, Array.replicate_zero, List.push_toArray, List.append_toArray, List.nil_append, List.cons_append]
  gi_wp2_with (first | (refine ⟨trivial, ?_⟩; gi_at_call 35; refine (callsIn_wide.2 HV.out).mono ?_; clear HV; rintro e' w1 ⟨rfl, rfl⟩) | (refine ⟨trivial, ?_⟩; gi_at_call 34; refine (callsIn_wide.2 HS.out).mono ?_; clear HS; rintro e' w2 ⟨ra, rc, rfl, hrec, hnew, A2⟩; have A02 := AL.trans A2; have hj2 := HJ.out _ hjj.out (Stp.of_aft A02 hB); obtain ⟨fn, tmps, assign, body, hy, hR⟩ := HY.out 2 pre (.slice ra K rc, sortF ch) w2 hj2 hN hrec; dsimp only at hy))
  refine hR.mono ?_
  rintro e' W3 (⟨rfl, hJ3, hk3⟩ | ⟨rfl, hJx3⟩)
  · gi_wp2
    go_ret
    refine .inl ⟨rfl, [(.slice ra K rc, sortF ch)], rfl, hJ3, fun x hx r hr => ?_, ?_, (Chg.of_aft A02 hB).trans (ev_of_kq hk3), (Keep.of_aft A02).trans (Keep.of_kq hk3)⟩
    · rw [List.mem_singleton.1 hx] at hr
      have h1 := hnew r hr
      have h2 := AL.size
      have h3 := hk3.size
      exact ⟨by omega, by omega⟩
    · exact hk3.row ((Chg.of_aft (ts := []) A02 hB).row HO.out (by simp)) (by decide)
  · gi_wp2
    go_ret
    exact .inr ⟨rfl, [(.slice ra K rc, sortF ch)], List.prefix_refl _, hJx3⟩
end Go.Proofs.Ytallloempmmgpaa
