/-
  Plain mathematics of feature records (no Go in sight): records as lists of pairs of byte strings, their order, unification, subsumption and meet, and the laws of P2.2 and P2.8. Conditions: the lists are strictly ascending where a theorem says 'Asc'.
-/
import GoSem.Op.String
import Derived.Lib.Bytealg
import Derived.WideShapes
namespace Go.Proofs.YthoppaemlandaaaDoor.FeatPlain

/-- A feature: name and value. -/
abbrev Ft := ByteArray × ByteArray

/-- Go's '<' on strings. -/
def lt (a b : ByteArray) : Bool := Op.bytesLess a.toList b.toList

theorem toList_inj {a b : ByteArray} (h : a.toList = b.toList) : a = b := by
  rw [ByteArray.toList_eq, ByteArray.toList_eq] at h
  exact WideShapes.bytes_inj h

theorem toList_beq (a b : ByteArray) : (a.toList == b.toList) = decide (a = b) := by
  by_cases h : a = b
  · subst h; simp
  · have : a.toList ≠ b.toList := fun e => h (toList_inj e)
    simp [h, this]

theorem less_irrefl : ∀ l : List UInt8, Op.bytesLess l l = false
  | [] => rfl
  | a :: l => by simp [Op.bytesLess, less_irrefl l, UInt8.lt_irrefl]

theorem less_trans : ∀ {x y z : List UInt8}, Op.bytesLess x y = true → Op.bytesLess y z = true → Op.bytesLess x z = true
  | _, _, [], _, h => by simp [Op.bytesLess] at h
  | _, [], _ :: _, h, _ => by simp [Op.bytesLess] at h
  | [], _ :: _, _ :: _, _, _ => rfl
  | a :: x, b :: y, c :: z, h, k => by
    simp only [Op.bytesLess, Bool.or_eq_true, Bool.and_eq_true, decide_eq_true_eq, beq_iff_eq] at h k ⊢
    rcases h with h | ⟨rfl, h⟩
    · rcases k with k | ⟨rfl, k⟩
      · exact .inl (UInt8.lt_trans h k)
      · exact .inl h
    · rcases k with k | ⟨rfl, k⟩
      · exact .inl k
      · exact .inr ⟨rfl, less_trans h k⟩

theorem less_total : ∀ {x y : List UInt8}, Op.bytesLess x y = false → Op.bytesLess y x = false → x = y
  | [], [], _, _ => rfl
  | [], _ :: _, h, _ => by simp [Op.bytesLess] at h
  | _ :: _, [], _, h => by simp [Op.bytesLess] at h
  | a :: x, b :: y, h, k => by
    simp only [Op.bytesLess, Bool.or_eq_false_iff, decide_eq_false_iff_not, Bool.and_eq_false_iff] at h k
    have hab : a = b := UInt8.le_antisymm (UInt8.not_lt.1 k.1) (UInt8.not_lt.1 h.1)
    subst hab
    have h2 : Op.bytesLess x y = false := by simpa using h.2
    have k2 : Op.bytesLess y x = false := by simpa using k.2
    rw [less_total h2 k2]

theorem lt_irrefl (a : ByteArray) : lt a a = false := less_irrefl _
theorem lt_trans {a b c : ByteArray} (h : lt a b = true) (k : lt b c = true) : lt a c = true := less_trans h k
theorem lt_total {a b : ByteArray} (h : lt a b = false) (k : lt b a = false) : a = b := toList_inj (less_total h k)
theorem lt_asymm {a b : ByteArray} (h : lt a b = true) : lt b a = false := by
  cases k : lt b a
  · rfl
  · have := lt_trans h k; rw [lt_irrefl] at this; cases this

/-- strings.Compare in terms of '<'. -/
theorem compare_cases : ∀ x y : List UInt8, Lib.compareBytes x y = if Op.bytesLess x y then -1 else if Op.bytesLess y x then 1 else 0
  | [], [] => rfl
  | [], _ :: _ => rfl
  | _ :: _, [] => rfl
  | a :: x, b :: y => by
    have ih := compare_cases x y
    unfold Lib.compareBytes
    by_cases h : a < b
    · simp [Op.bytesLess, h]
    · by_cases k : b < a
      · have hne : ¬ a = b := fun e => by subst e; exact UInt8.lt_irrefl _ k
        simp [Op.bytesLess, h, k, hne]
      · have hab : a = b := UInt8.le_antisymm (UInt8.not_lt.1 k) (UInt8.not_lt.1 h)
        subst hab
        simp [Op.bytesLess, ih, h]

theorem compare_lt (a b : ByteArray) : Lib.compareBytes a.toList b.toList = if lt a b then -1 else if lt b a then 1 else 0 := compare_cases _ _

/-- Strictly ascending names. -/
def Asc (l : List Ft) : Prop := l.Pairwise fun f g => lt f.1 g.1 = true

theorem asc_tail {f : Ft} {l : List Ft} (h : Asc (f :: l)) : Asc l := (List.pairwise_cons.1 h).2
theorem asc_head {f g : Ft} {l : List Ft} (h : Asc (f :: l)) (hg : g ∈ l) : lt f.1 g.1 = true := (List.pairwise_cons.1 h).1 g hg
theorem asc_nil : Asc [] := List.Pairwise.nil
theorem asc_cons {f : Ft} {l : List Ft} (h : ∀ g ∈ l, lt f.1 g.1 = true) (k : Asc l) : Asc (f :: l) := List.pairwise_cons.2 ⟨h, k⟩

/-- In an ascending list a name stands once. -/
theorem asc_eq : ∀ {l : List Ft} {f g : Ft}, Asc l → f ∈ l → g ∈ l → f.1 = g.1 → f = g
  | [], _, _, _, hf, _, _ => by cases hf
  | x :: l, f, g, h, hf, hg, e => by
    rcases List.mem_cons.1 hf with rfl | hf'
    · rcases List.mem_cons.1 hg with rfl | hg'
      · rfl
      · have := asc_head h hg'; rw [e, lt_irrefl] at this; cases this
    · rcases List.mem_cons.1 hg with rfl | hg'
      · have := asc_head h hf'; rw [e, lt_irrefl] at this; cases this
      · exact asc_eq (asc_tail h) hf' hg' e

/-- Ascending lists with the same members are equal. -/
theorem asc_ext : ∀ {a b : List Ft}, Asc a → Asc b → (∀ f, f ∈ a ↔ f ∈ b) → a = b
  | [], [], _, _, _ => rfl
  | [], g :: b, _, _, h => by have := (h g).2 (by simp); cases this
  | f :: a, [], _, _, h => by have := (h f).1 (by simp); cases this
  | f :: a, g :: b, ha, hb, h => by
    have hfg : f = g := by
      rcases List.mem_cons.1 ((h f).1 (by simp)) with e | hf
      · exact e
      · rcases List.mem_cons.1 ((h g).2 (by simp)) with e | hg
        · exact e.symm
        · have k1 := asc_head hb hf
          have k2 := asc_head ha hg
          have := lt_trans k1 k2
          rw [lt_irrefl] at this; cases this
    subst hfg
    have : a = b := asc_ext (asc_tail ha) (asc_tail hb) fun x => by
      constructor
      · intro hx
        rcases List.mem_cons.1 ((h x).1 (List.mem_cons_of_mem _ hx)) with rfl | hx'
        · have := asc_head ha hx; rw [lt_irrefl] at this; cases this
        · exact hx'
      · intro hx
        rcases List.mem_cons.1 ((h x).2 (List.mem_cons_of_mem _ hx)) with rfl | hx'
        · have := asc_head hb hx; rw [lt_irrefl] at this; cases this
        · exact hx'
    rw [this]

/-! ### skip, Subsumes, Meet -/
/-- The list from the first feature on whose name does not come before n. -/
def skip (n : ByteArray) : List Ft → List Ft
  | [] => []
  | g :: b => if lt g.1 n then skip n b else g :: b

def subs : List Ft → List Ft → Bool
  | [], _ => true
  | f :: a, b => match skip f.1 b with
    | [] => false
    | g :: b' => decide (g = f) && subs a (g :: b')

def meet : List Ft → List Ft → List Ft
  | [], _ => []
  | f :: a, b => match skip f.1 b with
    | [] => meet a []
    | g :: b' => if g = f then f :: meet a (g :: b') else meet a (g :: b')

theorem skip_suffix (n : ByteArray) : ∀ b : List Ft, skip n b <:+ b
  | [] => List.suffix_refl _
  | g :: b => by
    unfold skip
    split
    · exact (skip_suffix n b).trans (List.suffix_cons _ _)
    · exact List.suffix_refl _

theorem skip_asc {n : ByteArray} {b : List Ft} (h : Asc b) : Asc (skip n b) := h.sublist (skip_suffix n b).sublist

theorem skip_mem (n : ByteArray) : ∀ {b : List Ft} {g : Ft}, g ∈ b → lt g.1 n = false → g ∈ skip n b
  | x :: b, g, h, k => by
    unfold skip
    split
    · rename_i hx
      rcases List.mem_cons.1 h with rfl | h
      · rw [hx] at k; cases k
      · exact skip_mem n h k
    · exact h

theorem skip_head {n : ByteArray} : ∀ {b b' : List Ft} {g : Ft}, skip n b = g :: b' → lt g.1 n = false
  | x :: b, b', g, h => by
    unfold skip at h
    split at h
    · exact skip_head h
    · rename_i hx
      simp only [List.cons.injEq] at h
      rw [← h.1]; simpa using hx

theorem subs_iff : ∀ {a b : List Ft}, Asc a → Asc b → (subs a b = true ↔ ∀ f ∈ a, f ∈ b)
  | [], b, _, _ => by simp [subs]
  | f :: a, b, ha, hb => by
    have hs := skip_suffix f.1 b
    unfold subs
    cases hk : skip f.1 b with
    | nil =>
      simp only [Bool.false_eq_true, false_iff]
      intro h
      have := skip_mem f.1 (h f (by simp)) (lt_irrefl _)
      rw [hk] at this; cases this
    | cons g b' =>
      have hsa : Asc (g :: b') := hk ▸ skip_asc hb
      have ih := subs_iff (asc_tail ha) hsa
      simp only [Bool.and_eq_true, decide_eq_true_eq, ih]
      constructor
      · rintro ⟨rfl, h⟩ x hx
        rcases List.mem_cons.1 hx with rfl | hx
        · exact hs.subset (by rw [hk]; simp)
        · exact hs.subset (by rw [hk]; exact h x hx)
      · intro h
        have hf : f ∈ g :: b' := by rw [← hk]; exact skip_mem f.1 (h f (by simp)) (lt_irrefl _)
        have hgf : g = f := by
          rcases List.mem_cons.1 hf with e | hf'
          · exact e.symm
          · have k1 := asc_head hsa hf'
            have k2 := skip_head hk
            rw [k1] at k2; cases k2
        refine ⟨hgf, fun x hx => ?_⟩
        rw [← hk]
        exact skip_mem f.1 (h x (List.mem_cons_of_mem _ hx)) (lt_asymm (asc_head ha hx))

theorem meet_mem : ∀ {a b : List Ft}, Asc a → Asc b → ∀ f, f ∈ meet a b ↔ f ∈ a ∧ f ∈ b
  | [], b, _, _ => by simp [meet]
  | x :: a, b, ha, hb => by
    intro f
    have hs := skip_suffix x.1 b
    unfold meet
    cases hk : skip x.1 b with
    | nil =>
      simp only
      rw [meet_mem (asc_tail ha) asc_nil f]
      constructor
      · rintro ⟨_, h⟩; cases h
      · rintro ⟨h, k⟩
        exfalso
        have hlt : lt f.1 x.1 = false := by
          rcases List.mem_cons.1 h with rfl | h
          · exact lt_irrefl _
          · exact lt_asymm (asc_head ha h)
        have := skip_mem x.1 k hlt
        rw [hk] at this; cases this
    | cons g b' =>
      have hsa : Asc (g :: b') := hk ▸ skip_asc hb
      have ih := meet_mem (asc_tail ha) hsa f
      have hback : ∀ y, y ∈ g :: b' → y ∈ b := fun y hy => hs.subset (by rw [hk]; exact hy)
      have hfor : ∀ y, y ∈ x :: a → y ∈ b → y ∈ g :: b' := fun y hy hyb => by
        rw [← hk]
        refine skip_mem x.1 hyb ?_
        rcases List.mem_cons.1 hy with rfl | hy
        · exact lt_irrefl _
        · exact lt_asymm (asc_head ha hy)
      by_cases hgx : g = x
      · simp only [hgx, if_true]
        subst hgx
        rw [List.mem_cons, ih]
        constructor
        · rintro (e | ⟨h, k⟩)
          · exact ⟨by rw [e]; simp, hback _ (by rw [e]; simp)⟩
          · exact ⟨List.mem_cons_of_mem _ h, hback _ k⟩
        · rintro ⟨h, k⟩
          rcases List.mem_cons.1 h with e | h
          · exact .inl e
          · exact .inr ⟨h, hfor _ (List.mem_cons_of_mem _ h) k⟩
      · simp only [hgx, if_false]
        rw [ih]
        constructor
        · rintro ⟨h, k⟩
          exact ⟨List.mem_cons_of_mem _ h, hback _ k⟩
        · rintro ⟨h, k⟩
          have hk' := hfor f h k
          rcases List.mem_cons.1 h with rfl | h
          · exfalso
            rcases List.mem_cons.1 hk' with e | hk'
            · exact hgx e.symm
            · have k1 := asc_head hsa hk'
              rw [skip_head hk] at k1; cases k1
          · exact ⟨h, hk'⟩

theorem meet_sub : ∀ (a b : List Ft), (meet a b).Sublist a
  | [], b => by simp [meet]
  | x :: a, b => by
    unfold meet
    split
    · exact (meet_sub a _).cons _
    · split
      · exact (meet_sub a _).cons_cons _
      · exact (meet_sub a _).cons _

theorem meet_asc {a b : List Ft} (h : Asc a) : Asc (meet a b) := h.sublist (meet_sub a b)

/-! ### Unify -/
def unify : List Ft → List Ft → Option (List Ft)
  | [], b => some b
  | f :: a, [] => some (f :: a)
  | f :: a, g :: b =>
    if lt f.1 g.1 then (unify a (g :: b)).map (f :: ·)
    else if lt g.1 f.1 then (unify (f :: a) b).map (g :: ·)
    else if f.2 = g.2 then (unify a b).map (f :: ·)
    else none
termination_by a b => a.length + b.length

theorem unify_nil_left (b : List Ft) : unify [] b = some b := by unfold unify; rfl
theorem unify_nil_right (a : List Ft) : unify a [] = some a := by cases a <;> (unfold unify; rfl)
theorem unify_cons (f g : Ft) (a b : List Ft) : unify (f :: a) (g :: b) =
    if lt f.1 g.1 then (unify a (g :: b)).map (f :: ·)
    else if lt g.1 f.1 then (unify (f :: a) b).map (g :: ·)
    else if f.2 = g.2 then (unify a b).map (f :: ·)
    else none := by rw [unify]

/-- A clash: one name with two values. -/
def Clash (a b : List Ft) : Prop := ∃ f ∈ a, ∃ g ∈ b, f.1 = g.1 ∧ f.2 ≠ g.2

/-- What unification returns. -/
def Unified (a b : List Ft) : Option (List Ft) → Prop
  | none => Clash a b
  | some u => Asc u ∧ (∀ f, f ∈ u ↔ f ∈ a ∨ f ∈ b)

theorem unify_spec : ∀ (n : Nat) (a b : List Ft), a.length + b.length ≤ n → Asc a → Asc b → Unified a b (unify a b)
  | _, [], b, _, _, hb => by rw [unify_nil_left]; exact ⟨hb, by simp⟩
  | _, f :: a, [], _, ha, _ => by rw [unify_nil_right]; exact ⟨ha, by simp⟩
  | 0, f :: a, g :: b, hn, _, _ => by simp at hn
  | n + 1, f :: a, g :: b, hn, ha, hb => by
    rw [unify_cons]
    simp only [List.length_cons] at hn
    by_cases h1 : lt f.1 g.1 = true
    · rw [if_pos h1]
      have ih := unify_spec n a (g :: b) (by simp only [List.length_cons]; omega) (asc_tail ha) hb
      cases hu : unify a (g :: b) with
      | none =>
        rw [hu] at ih
        obtain ⟨x, hx, y, hy, e, ne⟩ := ih
        exact ⟨x, List.mem_cons_of_mem _ hx, y, hy, e, ne⟩
      | some u =>
        rw [hu] at ih
        refine ⟨asc_cons (fun y hy => ?_) ih.1, fun y => ?_⟩
        · rcases (ih.2 y).1 hy with h | h
          · exact asc_head ha h
          · rcases List.mem_cons.1 h with rfl | h
            · exact h1
            · exact lt_trans h1 (asc_head hb h)
        · rw [List.mem_cons, ih.2 y, List.mem_cons, List.mem_cons (a := y) (b := f), or_assoc]
    · rw [if_neg h1]
      by_cases h2 : lt g.1 f.1 = true
      · rw [if_pos h2]
        have ih := unify_spec n (f :: a) b (by simp only [List.length_cons]; omega) ha (asc_tail hb)
        cases hu : unify (f :: a) b with
        | none =>
          rw [hu] at ih
          obtain ⟨x, hx, y, hy, e, ne⟩ := ih
          exact ⟨x, hx, y, List.mem_cons_of_mem _ hy, e, ne⟩
        | some u =>
          rw [hu] at ih
          refine ⟨asc_cons (fun y hy => ?_) ih.1, fun y => ?_⟩
          · rcases (ih.2 y).1 hy with h | h
            · rcases List.mem_cons.1 h with rfl | h
              · exact h2
              · exact lt_trans h2 (asc_head ha h)
            · exact asc_head hb h
          · rw [List.mem_cons, ih.2 y, List.mem_cons (a := y) (b := g)]
            constructor
            · rintro (h | h | h)
              · exact .inr (.inl h)
              · exact .inl h
              · exact .inr (.inr h)
            · rintro (h | h | h)
              · exact .inr (.inl h)
              · exact .inl h
              · exact .inr (.inr h)
      · rw [if_neg h2]
        have e1 : f.1 = g.1 := lt_total (by simpa using h1) (by simpa using h2)
        by_cases h3 : f.2 = g.2
        · rw [if_pos h3]
          have hfg : f = g := Prod.ext e1 h3
          subst hfg
          have ih := unify_spec n a b (by omega) (asc_tail ha) (asc_tail hb)
          cases hu : unify a b with
          | none =>
            rw [hu] at ih
            obtain ⟨x, hx, y, hy, e, ne⟩ := ih
            exact ⟨x, List.mem_cons_of_mem _ hx, y, List.mem_cons_of_mem _ hy, e, ne⟩
          | some u =>
            rw [hu] at ih
            refine ⟨asc_cons (fun y hy => ?_) ih.1, fun y => ?_⟩
            · rcases (ih.2 y).1 hy with h | h
              · exact asc_head ha h
              · exact asc_head hb h
            · rw [List.mem_cons, ih.2 y, List.mem_cons, List.mem_cons]
              constructor
              · rintro (h | h | h)
                · exact .inl (.inl h)
                · exact .inl (.inr h)
                · exact .inr (.inr h)
              · rintro ((h | h) | (h | h))
                · exact .inl h
                · exact .inr (.inl h)
                · exact .inl h
                · exact .inr (.inr h)
        · rw [if_neg h3]
          exact ⟨f, by simp, g, by simp, e1, h3⟩

theorem unify_ok {a b : List Ft} (ha : Asc a) (hb : Asc b) : Unified a b (unify a b) := unify_spec _ a b (Nat.le_refl _) ha hb

theorem no_clash {a b u : List Ft} (hu : Asc u) (h : ∀ f, f ∈ u ↔ f ∈ a ∨ f ∈ b) : ¬ Clash a b := by
  rintro ⟨f, hf, g, hg, e, ne⟩
  exact ne (congrArg Prod.snd (asc_eq hu ((h f).2 (.inl hf)) ((h g).2 (.inr hg)) e))

/-- What determines the result of unification. -/
theorem unify_eq_some {a b u : List Ft} (ha : Asc a) (hb : Asc b) (hu : Asc u) (h : ∀ f, f ∈ u ↔ f ∈ a ∨ f ∈ b) : unify a b = some u := by
  have k := unify_ok ha hb
  cases hv : unify a b with
  | none => rw [hv] at k; exact absurd k (no_clash hu h)
  | some v =>
    rw [hv] at k
    rw [asc_ext k.1 hu fun f => (k.2 f).trans (h f).symm]

theorem unify_some {a b u : List Ft} (ha : Asc a) (hb : Asc b) (h : unify a b = some u) : Asc u ∧ ∀ f, f ∈ u ↔ f ∈ a ∨ f ∈ b := by
  have k := unify_ok ha hb
  rw [h] at k
  exact k

theorem unify_none {a b : List Ft} (ha : Asc a) (hb : Asc b) (h : unify a b = none) : Clash a b := by
  have k := unify_ok ha hb
  rw [h] at k
  exact k

/-! ### P2.8 -/
theorem subs_unify {a b : List Ft} (ha : Asc a) (hb : Asc b) : subs a b = true ↔ unify a b = some b := by
  rw [subs_iff ha hb]
  constructor
  · intro h
    exact unify_eq_some ha hb hb fun f => ⟨.inr, fun k => k.elim (h f) id⟩
  · intro h f hf
    exact ((unify_some ha hb h).2 f).2 (.inl hf)

theorem subs_refl {a : List Ft} (ha : Asc a) : subs a a = true := (subs_iff ha ha).2 fun _ h => h
theorem subs_nil (a : List Ft) : subs [] a = true := rfl
theorem subs_antisymm {a b : List Ft} (ha : Asc a) (hb : Asc b) : (subs a b = true ∧ subs b a = true) ↔ a = b := by
  rw [subs_iff ha hb, subs_iff hb ha]
  constructor
  · rintro ⟨h, k⟩
    exact asc_ext ha hb fun f => ⟨h f, k f⟩
  · rintro rfl
    exact ⟨fun _ h => h, fun _ h => h⟩

theorem unify_comm {a b : List Ft} (ha : Asc a) (hb : Asc b) : unify a b = unify b a := by
  have k := unify_ok hb ha
  cases hu : unify b a with
  | none =>
    rw [hu] at k
    cases hv : unify a b with
    | none => rfl
    | some v =>
      exfalso
      have kv := unify_some ha hb hv
      obtain ⟨f, hf, g, hg, e, ne⟩ := k
      exact no_clash kv.1 kv.2 ⟨g, hg, f, hf, e.symm, fun x => ne x.symm⟩
  | some u =>
    rw [hu] at k
    exact unify_eq_some ha hb k.1 fun f => (k.2 f).trans Or.comm

/-- Both orders of unification succeed or fail together, with the same result. -/
theorem unify_assoc {a b c : List Ft} (ha : Asc a) (hb : Asc b) (hc : Asc c) :
    ((unify a b).bind fun u => unify u c) = (unify b c).bind fun v => unify a v := by
  cases hu : unify a b with
  | none =>
    obtain ⟨f, hf, g, hg, e, ne⟩ := unify_none ha hb hu
    cases hv : unify b c with
    | none => rfl
    | some v =>
      have kv := unify_some hb hc hv
      cases hw : unify a v with
      | none => simp [hw]
      | some w =>
        exfalso
        have kw := unify_some ha kv.1 hw
        exact no_clash kw.1 kw.2 ⟨f, hf, g, (kv.2 g).2 (.inl hg), e, ne⟩
  | some u =>
    have ku := unify_some ha hb hu
    cases hv : unify b c with
    | none =>
      obtain ⟨f, hf, g, hg, e, ne⟩ := unify_none hb hc hv
      cases hw : unify u c with
      | none => simp [hw]
      | some w =>
        exfalso
        have kw := unify_some ku.1 hc hw
        exact no_clash kw.1 kw.2 ⟨f, (ku.2 f).2 (.inr hf), g, hg, e, ne⟩
    | some v =>
      have kv := unify_some hb hc hv
      simp only [Option.bind_some]
      cases hw : unify a v with
      | some w =>
        have kw := unify_some ha kv.1 hw
        exact unify_eq_some ku.1 hc kw.1 fun f => by rw [kw.2 f, kv.2 f, ku.2 f, or_assoc]
      | none =>
        cases hx : unify u c with
        | none => rfl
        | some x =>
          exfalso
          have kx := unify_some ku.1 hc hx
          obtain ⟨f, hf, g, hg, e, ne⟩ := unify_none ha kv.1 hw
          have hfx : f ∈ x := (kx.2 f).2 (.inl ((ku.2 f).2 (.inl hf)))
          have hgx : g ∈ x := (kx.2 g).2 (((kv.2 g).1 hg).elim (fun h => .inl ((ku.2 g).2 (.inr h))) .inr)
          exact ne (congrArg Prod.snd (asc_eq kx.1 hfx hgx e))

theorem unify_subs {a b u : List Ft} (ha : Asc a) (hb : Asc b) (h : unify a b = some u) : subs a u = true ∧ subs b u = true := by
  have k := unify_some ha hb h
  exact ⟨(subs_iff ha k.1).2 fun f hf => (k.2 f).2 (.inl hf), (subs_iff hb k.1).2 fun f hf => (k.2 f).2 (.inr hf)⟩

theorem meet_comm {a b : List Ft} (ha : Asc a) (hb : Asc b) : meet a b = meet b a :=
  asc_ext (meet_asc ha) (meet_asc hb) fun f => by rw [meet_mem ha hb, meet_mem hb ha, And.comm]

theorem meet_subs {a b : List Ft} (ha : Asc a) (hb : Asc b) : subs (meet a b) a = true ∧ subs (meet a b) b = true :=
  ⟨(subs_iff (meet_asc ha) ha).2 fun f hf => ((meet_mem ha hb f).1 hf).1, (subs_iff (meet_asc ha) hb).2 fun f hf => ((meet_mem ha hb f).1 hf).2⟩

theorem meet_greatest {a b c : List Ft} (ha : Asc a) (hb : Asc b) (hc : Asc c) : (subs c a = true ∧ subs c b = true) ↔ subs c (meet a b) = true := by
  rw [subs_iff hc ha, subs_iff hc hb, subs_iff hc (meet_asc ha)]
  constructor
  · rintro ⟨h, k⟩ f hf
    exact (meet_mem ha hb f).2 ⟨h f hf, k f hf⟩
  · intro h
    exact ⟨fun f hf => ((meet_mem ha hb f).1 (h f hf)).1, fun f hf => ((meet_mem ha hb f).1 (h f hf)).2⟩

theorem unify_len_aux : ∀ (n : Nat) (a b u : List Ft), a.length + b.length ≤ n → unify a b = some u → u.length ≤ a.length + b.length
  | _, [], b, u, _, h => by rw [unify_nil_left] at h; cases h; simp
  | _, f :: a, [], u, _, h => by rw [unify_nil_right] at h; cases h; simp
  | 0, f :: a, g :: b, u, hn, _ => by simp at hn
  | n + 1, f :: a, g :: b, u, hn, h => by
    rw [unify_cons] at h
    simp only [List.length_cons] at hn ⊢
    split at h
    · obtain ⟨v, hv, rfl⟩ := Option.map_eq_some_iff.1 h
      have := unify_len_aux n a (g :: b) v (by simp only [List.length_cons]; omega) hv
      simp only [List.length_cons] at this ⊢; omega
    · split at h
      · obtain ⟨v, hv, rfl⟩ := Option.map_eq_some_iff.1 h
        have := unify_len_aux n (f :: a) b v (by simp only [List.length_cons]; omega) hv
        simp only [List.length_cons] at this ⊢; omega
      · split at h
        · obtain ⟨v, hv, rfl⟩ := Option.map_eq_some_iff.1 h
          have := unify_len_aux n a b v (by omega) hv
          simp only [List.length_cons]; omega
        · cases h

theorem unify_len {a b u : List Ft} (h : unify a b = some u) : u.length ≤ a.length + b.length := unify_len_aux _ a b u (Nat.le_refl _) h

theorem unify3_subs {a b c u t : List Ft} (ha : Asc a) (hb : Asc b) (hc : Asc c) (hu : unify a b = some u) (ht : unify u c = some t) : subs a t = true ∧ subs b t = true ∧ subs c t = true := by
  have ku := unify_some ha hb hu
  have kt := unify_some ku.1 hc ht
  exact ⟨(subs_iff ha kt.1).2 fun f hf => (kt.2 f).2 (.inl ((ku.2 f).2 (.inl hf))), (subs_iff hb kt.1).2 fun f hf => (kt.2 f).2 (.inl ((ku.2 f).2 (.inr hf))), (subs_iff hc kt.1).2 fun f hf => (kt.2 f).2 (.inr hf)⟩

end Go.Proofs.YthoppaemlandaaaDoor.FeatPlain
