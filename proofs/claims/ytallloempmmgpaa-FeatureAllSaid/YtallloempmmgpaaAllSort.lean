/-
  slices.SortFunc of at most twelve features by compareFeatures sorts them. Conditions: the row is of a call's own, the names of its features are distinct.
-/
import Derived.Test.YtallloempmmgpaaAllBase
import Derived.Test.YtallloempmmgpaaShelfO
namespace Go.Proofs.Ytallloempmmgpaa
open Go.RowKit Go.Shelf Go.Lib Go.Sort
open FeatPlain

/-- w' is w with draws and new blocks. -/
def Gr (w w' : World) : Prop := ∃ q os, w' = grow (w.drewN q) os
theorem Gr.refl (w : World) : Gr w w := ⟨0, #[], by simp [grow, World.drewN]⟩
theorem Gr.alloc {a w : World} (h : Gr a w) (o : Obj) : Gr a (w.alloc o) := by
  obtain ⟨q, os, rfl⟩ := h
  exact ⟨q, os ++ #[o], by rw [alloc_eq_grow, grow_grow]⟩
theorem Gr.drew {a w : World} (h : Gr a w) : Gr a w.drew := by
  obtain ⟨q, os, rfl⟩ := h
  exact ⟨q + 1, os, rfl⟩
theorem Gr.drewN {a w : World} (h : Gr a w) (n : Nat) : Gr a (w.drewN n) := by
  obtain ⟨q, os, rfl⟩ := h
  exact ⟨q + n, os, by simp [grow, World.drewN, Nat.add_assoc]⟩

set_option maxHeartbeats 1600000 in
theorem compareG_any (f g : Ft) (w : World) :
    Calls Try.prog 36 #[.agg #[.string f.1, .string f.2], .agg #[.string g.1, .string g.2]] w (fun e w' => e = .returned (.int .i64 (cmpF f g)) ∧ Gr w w') := by
  go_enter Try.func36, Try.ntmps36
  go_wp2
  have hA : Gr w ((w.alloc (.cells #[.string f.1, .string f.2] 30)).alloc (.cells #[.string g.1, .string g.2] 30)) := ((Gr.refl w).alloc _).alloc _
  have k1 : ((w.alloc (.cells #[.string f.1, .string f.2] 30)).alloc (.cells #[.string g.1, .string g.2] 30)).cell? ⟨w.heap.size, 0, none⟩ = some (.string f.1) := by simp
  have k2 : ((w.alloc (.cells #[.string f.1, .string f.2] 30)).alloc (.cells #[.string g.1, .string g.2] 30)).cell? ⟨w.heap.size, 1, none⟩ = some (.string f.2) := by simp
  have k3 : ((w.alloc (.cells #[.string f.1, .string f.2] 30)).alloc (.cells #[.string g.1, .string g.2] 30)).cell? ⟨w.heap.size + 1, 0, none⟩ = some (.string g.1) := by simp
  have k4 : ((w.alloc (.cells #[.string f.1, .string f.2] 30)).alloc (.cells #[.string g.1, .string g.2] 30)).cell? ⟨w.heap.size + 1, 1, none⟩ = some (.string g.2) := by simp
  generalize ((w.alloc (.cells #[.string f.1, .string f.2] 30)).alloc (.cells #[.string g.1, .string g.2] 30)) = W at hA k1 k2 k3 k4 ⊢
  go_region_held3 (fun w' => w'.cell? ⟨w.heap.size, 0, none⟩ = some (.string f.1) ∧ w'.cell? ⟨w.heap.size, 1, none⟩ = some (.string f.2) ∧ w'.cell? ⟨w.heap.size + 1, 0, none⟩ = some (.string g.1) ∧ w'.cell? ⟨w.heap.size + 1, 1, none⟩ = some (.string g.2)) (go_keep) (first | (go_at_call 16; refine (compare_s _ _ _).mono ?_; rintro e w' ⟨rfl, rfl⟩) | (go_at_call 43; refine (or_any W.heap.size (cmpS f.1 g.1) (cmpS f.2 g.2) _ (by simp) (by simp)).mono ?_; rintro e w' ⟨rfl, rfl⟩))
  go_wp2
  go_ret
  exact ⟨rfl, by first | exact (hA.alloc _).drew | exact hA.drew.alloc _ | exact (hA.drewN _).alloc _⟩

theorem lt_ntrans {a b c : ByteArray} (h : lt a b = false) (k : lt b c = false) : lt a c = false := by
  cases e : lt a c
  · rfl
  · exfalso
    cases q : lt b a
    · have := lt_total h q
      subst this
      rw [e] at k; cases k
    · have := lt_trans q e
      rw [this] at k; cases k
theorem cmpF_ge (f g : Ft) : ltOf cmpF f g = false ↔ lt g.1 f.1 = true ∨ (f.1 = g.1 ∧ lt f.2 g.2 = false) := by
  unfold ltOf
  rw [decide_eq_false_iff_not, cmpF_lt]
  constructor
  · intro h
    cases q : lt g.1 f.1
    · right
      have h1 : lt f.1 g.1 = false := by
        cases e : lt f.1 g.1
        · rfl
        · exact absurd (.inl e) h
      have e := lt_total h1 q
      refine ⟨e, ?_⟩
      cases k : lt f.2 g.2
      · rfl
      · exact absurd (.inr ⟨e, k⟩) h
    · exact .inl rfl
  · rintro (h | ⟨e, h⟩) (k | ⟨e', k⟩)
    · rw [lt_asymm h] at k; cases k
    · rw [e', lt_irrefl] at h; cases h
    · rw [e, lt_irrefl] at k; cases k
    · rw [h] at k; cases k
theorem swoF : SWO (ltOf cmpF) where
  irrefl x := (cmpF_ge x x).2 (.inr ⟨rfl, lt_irrefl _⟩)
  trans x y z h1 h2 := by
    unfold ltOf at *
    rw [decide_eq_true_eq, cmpF_lt] at *
    rcases h1 with h1 | ⟨e1, h1⟩ <;> rcases h2 with h2 | ⟨e2, h2⟩
    · exact .inl (lt_trans h1 h2)
    · exact .inl (e2 ▸ h1)
    · exact .inl (e1 ▸ h2)
    · exact .inr ⟨e1.trans e2, lt_trans h1 h2⟩
  ntrans x y z h1 h2 := by
    rw [cmpF_ge] at *
    rcases h1 with h1 | ⟨e1, h1⟩ <;> rcases h2 with h2 | ⟨e2, h2⟩
    · exact .inl (lt_trans h2 h1)
    · exact .inl (e2 ▸ h1)
    · exact .inl (e1 ▸ h2)
    · exact .inr ⟨e1.trans e2, lt_ntrans h1 h2⟩

def encF (f : Ft) : List Value := [.string f.1, .string f.2]
theorem encF_get (fs : List Ft) (j : Nat) (hj : j < fs.length * 2) : (flat fs)[j]? = some (encF fs.toArray[j / 2]!)[j % 2]! := by
  have hlt : j / 2 < fs.length := by omega
  have h := flat_get fs (j / 2) fs[j / 2] (List.getElem?_eq_getElem hlt)
  have e : fs.toArray[j / 2]! = fs[j / 2] := by simp [hlt]
  rw [e]
  rcases Nat.mod_two_eq_zero_or_one j with hm | hm
  · have ej : j / 2 * 2 = j := by omega
    rw [ej] at h
    rw [hm, h.1]; rfl
  · have ej : j / 2 * 2 + 1 = j := by omega
    rw [ej] at h
    rw [hm, h.2]; rfl
theorem holds_of {w : World} {base g n cap : Nat} {fs : List Ft} (h : w.ownsRow base 30 2 (.slice (some ⟨g, 0, none⟩) n cap) n (flat fs)) (hl : fs.length = n) : HoldsK encF 2 w g 0 fs.toArray := by
  intro j hj
  rw [size_flatK, List.size_toArray] at hj
  rw [get_flatK _ _ _ _ (by simpa using hj), Nat.zero_add, h.cellAt _ (by omega), encF_get fs j hj]
  refine ⟨rfl, ?_⟩
  rcases h.2 with ⟨e1, _⟩ | ⟨g', cap', cur, e1, _, e3, _⟩
  · cases e1
  · cases e1
    simp [World.frozen?, e3]

theorem sort_other {w : World} {g n k : Nat} {d : Array Ft} {os : Array Obj} (hk : k < w.heap.size) (hne : k ≠ g) : (sortWorldK encF 2 w g 0 n d os).heap[k]? = w.heap[k]? := by
  unfold sortWorldK grow putRowK putRow mapBlock Sort.ahead
  simp only
  rw [Array.getElem?_append_left (by simpa using hk), Array.getElem?_modify, if_neg (Ne.symm hne)]
theorem sort_block {w : World} {base g n cap q : Nat} {xs : List Value} (h : w.ownsRow base 30 2 (.slice (some ⟨g, 0, none⟩) n cap) n xs) {d : Array Ft} {os : Array Obj} : ∃ cur, (sortWorldK encF 2 w g 0 q d os).heap[g]? = some (.cells cur 30 (0, 0)) := by
  rcases h.2 with ⟨e1, _⟩ | ⟨g', cap', cur, e1, _, e3, _⟩
  · cases e1
  · cases e1
    have hlt := (Array.getElem?_eq_some_iff.1 e3).1
    unfold sortWorldK grow putRowK putRow mapBlock Sort.ahead
    simp only
    rw [Array.getElem?_append_left (by simpa using hlt), Array.getElem?_modify, if_pos rfl, e3]
    exact ⟨_, rfl⟩
theorem sort_aft {w0 w : World} {g n : Nat} {d : Array Ft} {os : Array Obj} (h : Aft w0 w) (hg : w0.heap.size ≤ g) : Aft w0 (sortWorldK encF 2 w g 0 n d os) := by
  refine ⟨h.os, h.tape, h.output, Nat.le_trans h.size (size_sortWorldK_c _ _ _ _ _ _ _ _), fun k hk => ?_⟩
  rw [sort_other (Nat.lt_of_lt_of_le hk h.size) (by omega)]
  exact h.block k hk

theorem hlen2 (n : Nat) (W : World) (h : n ≤ 12) : Calls Try.prog 47 #[.int .u64 n] W fun e w' => (∃ l : Int, e = .returned (.int .i64 l)) ∧ w' = W :=
  (Any.bits_Len Try.bitsLen2 n W (by omega) (by omega)).mono fun _ _ ⟨he, hw⟩ => ⟨⟨_, he⟩, hw⟩

theorem sortF_any (g n cap : Nat) (fs : List Ft) (w0 w : World) (own : w.ownsRow w0.heap.size 30 2 (.slice (some ⟨g, 0, none⟩) n cap) n (flat fs)) (hl : fs.length = n) (hn : n ≤ 4) (hd : (fs.map (·.1)).Nodup) (haf : Aft w0 w) :
    Calls Try.prog 41 #[.slice (some ⟨g, 0, none⟩) n cap, .func (.func 36) #[] #[]] w
      (fun e w' => e = .returned (.tuple #[]) ∧ Sl w' (some ⟨g, 0, none⟩) n cap (sortF fs) ∧ (∃ cur, w'.heap[g]? = some (.cells cur 30 (0, 0))) ∧ Aft w0 w') := by
  have hg := own.lt g rfl
  have hcap : n ≤ cap ∧ cap ≤ maxLen := by
    rcases own.2 with ⟨e1, _⟩ | ⟨g', cap', cur, e1, _, _, h1, h2, _⟩
    · cases e1
    · cases e1; exact ⟨h1, h2⟩
  have eg : ∀ args w, (callFunc 36 args).run Try.prog w = .ok (.enter 36 args) w := enters_of Try.func36 (by kernel_rfl) rfl
  have hH := holds_of own hl
  have hcon := AnyQ.slices_SortFunc_small_sorted Try.sortFt 2 Try.isAgg30 Try.sizeOf30 encF (fun _ => rfl) (fun x v hv => by simp [encF] at hv; rcases hv with rfl | rfl <;> rfl) cmpF 36 #[] swoF g 0 cap fs.toArray w eg
    (fun _ _ _ _ x y => (compareG_any x y _).mono fun _ _ ⟨he, hG⟩ => ⟨he, hG⟩) hH hg.2 (by simp [hl]; omega) hlen2
  rw [List.size_toArray, hl] at hcon
  refine Calls.mono hcon ?_
  rintro e w' ⟨rfl, d', q, os, hp, hs, rfl⟩
  have hds : d'.size = n := by have := hp.1; simpa [hl] using this
  have hperm : fs.Perm d'.toList := by
    have h3 := hp.2.2
    rw [← hds, Array.extract_size] at h3
    have e1 : fs.toArray.extract 0 d'.size = fs.toArray := by rw [hds, ← hl, ← List.size_toArray, Array.extract_size]
    rw [e1] at h3
    exact h3.symm
  have hsort : d'.toList = sortF fs := by
    refine sorted_eq hd hperm (fun i j f k hij hi hj hlt => ?_)
    have hj' : j < n := by have := (List.getElem?_eq_some_iff.1 hj).1; rw [Array.length_toList] at this; omega
    have h4 := hs i j (Nat.zero_le _) hij hj'
    have e1 : d'[i]! = f := by rw [Array.getElem?_toList] at hi; rw [Array.getElem!_eq_getD, Array.getD_eq_getD_getElem?, hi]; rfl
    have e2 : d'[j]! = k := by rw [Array.getElem?_toList] at hj; rw [Array.getElem!_eq_getD, Array.getD_eq_getD_getElem?, hj]; rfl
    rw [e1, e2] at h4
    unfold ltOf at h4
    rw [decide_eq_false_iff_not] at h4
    exact h4 hlt
  have hH' := holdsK_sortWorldK_c encF 2 w g 0 fs.toArray d' q os hH hg.2 (by simp [hds, hl])
  refine ⟨rfl, ⟨by rw [← hsort, Array.length_toList]; exact hds, hcap.1, by omega, by have := hcap.2; unfold maxLen at this; omega, fun e => (by cases e), fun i f hi => ⟨g, 0, rfl, ?_, ?_⟩⟩, sort_block own, sort_aft haf hg.1⟩
  all_goals
    rw [← hsort, Array.getElem?_toList] at hi
    have hi' : i < d'.size := (Array.getElem?_eq_some_iff.1 hi).1
    have e1 : d'[i]! = f := by rw [Array.getElem!_eq_getD, Array.getD_eq_getD_getElem?, hi]; rfl
  · have := (HoldsK.cell hH' hi' (c := 0) (by omega)).1
    rw [e1] at this
    exact this
  · have := (HoldsK.cell hH' hi' (c := 1) (by omega)).1
    rw [e1] at this
    exact this
end Go.Proofs.Ytallloempmmgpaa
