/-
  Plain mathematics of feature records (no Go in sight): records as lists of pairs of byte strings, their order, unification, subsumption and meet, and the laws of P2.2 and P2.8. Conditions: the lists are strictly ascending where a theorem says 'Asc'.
  What the walks over package feature share: how a slice of features lies in memory ('Sl'), what '==' says of two features, and the closed facts of the translation.
  skip returns the features from the first one on whose name does not come before the given one. Condition: the slice holds the features.
  Subsumes returns whether every feature of the first list is met in the second one, as it goes through both. Condition: the slices hold the features.
  Same returns whether two lists of features are equal; Record whether the names of a list are strictly ascending. Condition: the slices hold the features.
  Unify returns the unification of two lists of features. Condition: the slices hold the features.
  isName and Name return whether a string is a nonempty string of a to z, 0 to 9 and hyphens. Condition: none beyond the size that every string has.
  Valid (of the program and of the reference) returns whether a list of features is a valid record. Condition: the slice holds the features, and no string is longer than any string can be.
  The reference's Valid returns whether a list is a valid record. Condition: the slice holds the features, and no string is longer than any string can be.
  Meet, of the program and of the reference, returns the features that both lists have, each as it looks for them. Condition: the slices hold the features, and the first one is no longer than an argument can be.
  The reference's Meet returns the features of the first list that Has finds in the second one. Condition: the slices hold the features, and the first one is no longer than an argument can be.
  Lists of names and sets of names: how a slice of strings lies in memory ('Ss'); among(names) gives the test whether a feature's name is in the list. Condition: the slice holds the names, none of which is longer than a string can be.
  How an argument that is a slice of strings is opened: it holds strings, none of which is too long, and takes no more bytes than any argument does.
  Which blocks a step leaves as they are, by their types ('Chg'); append from whatever slice. Conditions: as each theorem says.
  append onto a row of the call's own, with what it says of where the row lies behind it: in the same block with the same capacity, or in a new one. Conditions: as the theorem says.
  A drawn region walked operation by operation: the library's laws, with the operation read off the list, so that it stands written out. No conditions of its own.
  What the bound on an argument's bulk gives: a slice's places, a string's letters.
  Index returns the index of the first feature with a name, or -1; Has whether a list has a feature, as the reference looks for it; Get the value of the first feature with a name. Condition: the slice holds the features.
  A strings.Builder's WriteByte and WriteString append to what it holds, and change no other memory that was there. Condition: the length stays below Go's own limit.
  Text returns name=value for each feature, separated by blanks. Condition: the slice holds the features, and the whole text is shorter than Go's own limit.
-/
import GoSem.Op.String
import Derived.Lib.Bytealg
import Derived.WideShapes
import Derived.Test.YtpkhoklahcgcoaaDoorProg
import Derived.WalkKit
import Derived.WalkLawsBesides
import Derived.Laws.StructEq
import Derived.Laws.Tables
import Derived.Deep.LoopGhost
import Derived.Deep.QuietTactic
import Derived.BigQuiet
import Derived.Deep.Draws
import Derived.Lib.Hide
import Derived.KernelRfl
import Derived.Test.YtpkhoklahcgcoaaDoorShelf
import Derived.OwnWalk
import Derived.Deep.RegionLaw
import Derived.Deep.DeepMust
import Derived.Maps.OwnOps
import Derived.Maps.OwnSet
import Derived.Maps.Views
import Derived.Maps.AppendAt
import Derived.ProofKit
import Derived.OpenShut
import Derived.ChangeOld
import Derived.SizedLaws
import Derived.Deep.Strs
import Derived.Laws.AppendOwnNone
import Derived.RangeFuncBox
import Derived.OwnWalkIn
import Derived.Deep.RegionHeld3
import Derived.OrdersHeld
import Derived.Test.YtpkhoklahcgcoaaDoorRows
import Derived.Shelf.Strings.BuilderK
namespace Go.Proofs.YtpkhoklahcgcoaaDoor.FeatPlain

/-- A feature: name and value. -/
abbrev Ft := ByteArray × ByteArray

/-- Go's '<' on strings. -/
def lt (a b : ByteArray) : Bool := Op.bytesLess a.toList b.toList

theorem toList_inj {a b : ByteArray} (h : a.toList = b.toList) : a = b := by
  rw [ByteArray.toList_eq, ByteArray.toList_eq] at h
  exact WideShapes.bytes_inj h

theorem toList_beq (a b : ByteArray) : (a.toList == b.toList) = decide (a = b) := by
  by_cases h : a = b
  · subst h; simp
  · have : a.toList ≠ b.toList := fun e => h (toList_inj e)
    simp [h, this]

theorem less_irrefl : ∀ l : List UInt8, Op.bytesLess l l = false
  | [] => rfl
  | a :: l => by simp [Op.bytesLess, less_irrefl l, UInt8.lt_irrefl]

theorem less_trans : ∀ {x y z : List UInt8}, Op.bytesLess x y = true → Op.bytesLess y z = true → Op.bytesLess x z = true
  | _, _, [], _, h => by simp [Op.bytesLess] at h
  | _, [], _ :: _, h, _ => by simp [Op.bytesLess] at h
  | [], _ :: _, _ :: _, _, _ => rfl
  | a :: x, b :: y, c :: z, h, k => by
    simp only [Op.bytesLess, Bool.or_eq_true, Bool.and_eq_true, decide_eq_true_eq, beq_iff_eq] at h k ⊢
    rcases h with h | ⟨rfl, h⟩
    · rcases k with k | ⟨rfl, k⟩
      · exact .inl (UInt8.lt_trans h k)
      · exact .inl h
    · rcases k with k | ⟨rfl, k⟩
      · exact .inl k
      · exact .inr ⟨rfl, less_trans h k⟩

theorem less_total : ∀ {x y : List UInt8}, Op.bytesLess x y = false → Op.bytesLess y x = false → x = y
  | [], [], _, _ => rfl
  | [], _ :: _, h, _ => by simp [Op.bytesLess] at h
  | _ :: _, [], _, h => by simp [Op.bytesLess] at h
  | a :: x, b :: y, h, k => by
    simp only [Op.bytesLess, Bool.or_eq_false_iff, decide_eq_false_iff_not, Bool.and_eq_false_iff] at h k
    have hab : a = b := UInt8.le_antisymm (UInt8.not_lt.1 k.1) (UInt8.not_lt.1 h.1)
    subst hab
    have h2 : Op.bytesLess x y = false := by simpa using h.2
    have k2 : Op.bytesLess y x = false := by simpa using k.2
    rw [less_total h2 k2]

theorem lt_irrefl (a : ByteArray) : lt a a = false := less_irrefl _
theorem lt_trans {a b c : ByteArray} (h : lt a b = true) (k : lt b c = true) : lt a c = true := less_trans h k
theorem lt_total {a b : ByteArray} (h : lt a b = false) (k : lt b a = false) : a = b := toList_inj (less_total h k)
theorem lt_asymm {a b : ByteArray} (h : lt a b = true) : lt b a = false := by
  cases k : lt b a
  · rfl
  · have := lt_trans h k; rw [lt_irrefl] at this; cases this

/-- strings.Compare in terms of '<'. -/
theorem compare_cases : ∀ x y : List UInt8, Lib.compareBytes x y = if Op.bytesLess x y then -1 else if Op.bytesLess y x then 1 else 0
  | [], [] => rfl
  | [], _ :: _ => rfl
  | _ :: _, [] => rfl
  | a :: x, b :: y => by
    have ih := compare_cases x y
    unfold Lib.compareBytes
    by_cases h : a < b
    · simp [Op.bytesLess, h]
    · by_cases k : b < a
      · have hne : ¬ a = b := fun e => by subst e; exact UInt8.lt_irrefl _ k
        simp [Op.bytesLess, h, k, hne]
      · have hab : a = b := UInt8.le_antisymm (UInt8.not_lt.1 k) (UInt8.not_lt.1 h)
        subst hab
        simp [Op.bytesLess, ih, h]

theorem compare_lt (a b : ByteArray) : Lib.compareBytes a.toList b.toList = if lt a b then -1 else if lt b a then 1 else 0 := compare_cases _ _

/-- Strictly ascending names. -/
def Asc (l : List Ft) : Prop := l.Pairwise fun f g => lt f.1 g.1 = true

theorem asc_tail {f : Ft} {l : List Ft} (h : Asc (f :: l)) : Asc l := (List.pairwise_cons.1 h).2
theorem asc_head {f g : Ft} {l : List Ft} (h : Asc (f :: l)) (hg : g ∈ l) : lt f.1 g.1 = true := (List.pairwise_cons.1 h).1 g hg
theorem asc_nil : Asc [] := List.Pairwise.nil
theorem asc_cons {f : Ft} {l : List Ft} (h : ∀ g ∈ l, lt f.1 g.1 = true) (k : Asc l) : Asc (f :: l) := List.pairwise_cons.2 ⟨h, k⟩

/-- In an ascending list a name stands once. -/
theorem asc_eq : ∀ {l : List Ft} {f g : Ft}, Asc l → f ∈ l → g ∈ l → f.1 = g.1 → f = g
  | [], _, _, _, hf, _, _ => by cases hf
  | x :: l, f, g, h, hf, hg, e => by
    rcases List.mem_cons.1 hf with rfl | hf'
    · rcases List.mem_cons.1 hg with rfl | hg'
      · rfl
      · have := asc_head h hg'; rw [e, lt_irrefl] at this; cases this
    · rcases List.mem_cons.1 hg with rfl | hg'
      · have := asc_head h hf'; rw [e, lt_irrefl] at this; cases this
      · exact asc_eq (asc_tail h) hf' hg' e

/-- Ascending lists with the same members are equal. -/
theorem asc_ext : ∀ {a b : List Ft}, Asc a → Asc b → (∀ f, f ∈ a ↔ f ∈ b) → a = b
  | [], [], _, _, _ => rfl
  | [], g :: b, _, _, h => by have := (h g).2 (by simp); cases this
  | f :: a, [], _, _, h => by have := (h f).1 (by simp); cases this
  | f :: a, g :: b, ha, hb, h => by
    have hfg : f = g := by
      rcases List.mem_cons.1 ((h f).1 (by simp)) with e | hf
      · exact e
      · rcases List.mem_cons.1 ((h g).2 (by simp)) with e | hg
        · exact e.symm
        · have k1 := asc_head hb hf
          have k2 := asc_head ha hg
          have := lt_trans k1 k2
          rw [lt_irrefl] at this; cases this
    subst hfg
    have : a = b := asc_ext (asc_tail ha) (asc_tail hb) fun x => by
      constructor
      · intro hx
        rcases List.mem_cons.1 ((h x).1 (List.mem_cons_of_mem _ hx)) with rfl | hx'
        · have := asc_head ha hx; rw [lt_irrefl] at this; cases this
        · exact hx'
      · intro hx
        rcases List.mem_cons.1 ((h x).2 (List.mem_cons_of_mem _ hx)) with rfl | hx'
        · have := asc_head hb hx; rw [lt_irrefl] at this; cases this
        · exact hx'
    rw [this]

/-! ### skip, Subsumes, Meet -/
/-- The list from the first feature on whose name does not come before n. -/
def skip (n : ByteArray) : List Ft → List Ft
  | [] => []
  | g :: b => if lt g.1 n then skip n b else g :: b

def subs : List Ft → List Ft → Bool
  | [], _ => true
  | f :: a, b => match skip f.1 b with
    | [] => false
    | g :: b' => decide (g = f) && subs a (g :: b')

def meet : List Ft → List Ft → List Ft
  | [], _ => []
  | f :: a, b => match skip f.1 b with
    | [] => meet a []
    | g :: b' => if g = f then f :: meet a (g :: b') else meet a (g :: b')

theorem skip_suffix (n : ByteArray) : ∀ b : List Ft, skip n b <:+ b
  | [] => List.suffix_refl _
  | g :: b => by
    unfold skip
    split
    · exact (skip_suffix n b).trans (List.suffix_cons _ _)
    · exact List.suffix_refl _

theorem skip_asc {n : ByteArray} {b : List Ft} (h : Asc b) : Asc (skip n b) := h.sublist (skip_suffix n b).sublist

theorem skip_mem (n : ByteArray) : ∀ {b : List Ft} {g : Ft}, g ∈ b → lt g.1 n = false → g ∈ skip n b
  | x :: b, g, h, k => by
    unfold skip
    split
    · rename_i hx
      rcases List.mem_cons.1 h with rfl | h
      · rw [hx] at k; cases k
      · exact skip_mem n h k
    · exact h

theorem skip_head {n : ByteArray} : ∀ {b b' : List Ft} {g : Ft}, skip n b = g :: b' → lt g.1 n = false
  | x :: b, b', g, h => by
    unfold skip at h
    split at h
    · exact skip_head h
    · rename_i hx
      simp only [List.cons.injEq] at h
      rw [← h.1]; simpa using hx

theorem subs_iff : ∀ {a b : List Ft}, Asc a → Asc b → (subs a b = true ↔ ∀ f ∈ a, f ∈ b)
  | [], b, _, _ => by simp [subs]
  | f :: a, b, ha, hb => by
    have hs := skip_suffix f.1 b
    unfold subs
    cases hk : skip f.1 b with
    | nil =>
      simp only [Bool.false_eq_true, false_iff]
      intro h
      have := skip_mem f.1 (h f (by simp)) (lt_irrefl _)
      rw [hk] at this; cases this
    | cons g b' =>
      have hsa : Asc (g :: b') := hk ▸ skip_asc hb
      have ih := subs_iff (asc_tail ha) hsa
      simp only [Bool.and_eq_true, decide_eq_true_eq, ih]
      constructor
      · rintro ⟨rfl, h⟩ x hx
        rcases List.mem_cons.1 hx with rfl | hx
        · exact hs.subset (by rw [hk]; simp)
        · exact hs.subset (by rw [hk]; exact h x hx)
      · intro h
        have hf : f ∈ g :: b' := by rw [← hk]; exact skip_mem f.1 (h f (by simp)) (lt_irrefl _)
        have hgf : g = f := by
          rcases List.mem_cons.1 hf with e | hf'
          · exact e.symm
          · have k1 := asc_head hsa hf'
            have k2 := skip_head hk
            rw [k1] at k2; cases k2
        refine ⟨hgf, fun x hx => ?_⟩
        rw [← hk]
        exact skip_mem f.1 (h x (List.mem_cons_of_mem _ hx)) (lt_asymm (asc_head ha hx))

theorem meet_mem : ∀ {a b : List Ft}, Asc a → Asc b → ∀ f, f ∈ meet a b ↔ f ∈ a ∧ f ∈ b
  | [], b, _, _ => by simp [meet]
  | x :: a, b, ha, hb => by
    intro f
    have hs := skip_suffix x.1 b
    unfold meet
    cases hk : skip x.1 b with
    | nil =>
      simp only
      rw [meet_mem (asc_tail ha) asc_nil f]
      constructor
      · rintro ⟨_, h⟩; cases h
      · rintro ⟨h, k⟩
        exfalso
        have hlt : lt f.1 x.1 = false := by
          rcases List.mem_cons.1 h with rfl | h
          · exact lt_irrefl _
          · exact lt_asymm (asc_head ha h)
        have := skip_mem x.1 k hlt
        rw [hk] at this; cases this
    | cons g b' =>
      have hsa : Asc (g :: b') := hk ▸ skip_asc hb
      have ih := meet_mem (asc_tail ha) hsa f
      have hback : ∀ y, y ∈ g :: b' → y ∈ b := fun y hy => hs.subset (by rw [hk]; exact hy)
      have hfor : ∀ y, y ∈ x :: a → y ∈ b → y ∈ g :: b' := fun y hy hyb => by
        rw [← hk]
        refine skip_mem x.1 hyb ?_
        rcases List.mem_cons.1 hy with rfl | hy
        · exact lt_irrefl _
        · exact lt_asymm (asc_head ha hy)
      by_cases hgx : g = x
      · simp only [hgx, if_true]
        subst hgx
        rw [List.mem_cons, ih]
        constructor
        · rintro (e | ⟨h, k⟩)
          · exact ⟨by rw [e]; simp, hback _ (by rw [e]; simp)⟩
          · exact ⟨List.mem_cons_of_mem _ h, hback _ k⟩
        · rintro ⟨h, k⟩
          rcases List.mem_cons.1 h with e | h
          · exact .inl e
          · exact .inr ⟨h, hfor _ (List.mem_cons_of_mem _ h) k⟩
      · simp only [hgx, if_false]
        rw [ih]
        constructor
        · rintro ⟨h, k⟩
          exact ⟨List.mem_cons_of_mem _ h, hback _ k⟩
        · rintro ⟨h, k⟩
          have hk' := hfor f h k
          rcases List.mem_cons.1 h with rfl | h
          · exfalso
            rcases List.mem_cons.1 hk' with e | hk'
            · exact hgx e.symm
            · have k1 := asc_head hsa hk'
              rw [skip_head hk] at k1; cases k1
          · exact ⟨h, hk'⟩

theorem meet_sub : ∀ (a b : List Ft), (meet a b).Sublist a
  | [], b => by simp [meet]
  | x :: a, b => by
    unfold meet
    split
    · exact (meet_sub a _).cons _
    · split
      · exact (meet_sub a _).cons_cons _
      · exact (meet_sub a _).cons _

theorem meet_asc {a b : List Ft} (h : Asc a) : Asc (meet a b) := h.sublist (meet_sub a b)

/-! ### Unify -/
def unify : List Ft → List Ft → Option (List Ft)
  | [], b => some b
  | f :: a, [] => some (f :: a)
  | f :: a, g :: b =>
    if lt f.1 g.1 then (unify a (g :: b)).map (f :: ·)
    else if lt g.1 f.1 then (unify (f :: a) b).map (g :: ·)
    else if f.2 = g.2 then (unify a b).map (f :: ·)
    else none
termination_by a b => a.length + b.length

theorem unify_nil_left (b : List Ft) : unify [] b = some b := by unfold unify; rfl
theorem unify_nil_right (a : List Ft) : unify a [] = some a := by cases a <;> (unfold unify; rfl)
theorem unify_cons (f g : Ft) (a b : List Ft) : unify (f :: a) (g :: b) =
    if lt f.1 g.1 then (unify a (g :: b)).map (f :: ·)
    else if lt g.1 f.1 then (unify (f :: a) b).map (g :: ·)
    else if f.2 = g.2 then (unify a b).map (f :: ·)
    else none := by rw [unify]

/-- A clash: one name with two values. -/
def Clash (a b : List Ft) : Prop := ∃ f ∈ a, ∃ g ∈ b, f.1 = g.1 ∧ f.2 ≠ g.2

/-- What unification returns. -/
def Unified (a b : List Ft) : Option (List Ft) → Prop
  | none => Clash a b
  | some u => Asc u ∧ (∀ f, f ∈ u ↔ f ∈ a ∨ f ∈ b)

theorem unify_spec : ∀ (n : Nat) (a b : List Ft), a.length + b.length ≤ n → Asc a → Asc b → Unified a b (unify a b)
  | _, [], b, _, _, hb => by rw [unify_nil_left]; exact ⟨hb, by simp⟩
  | _, f :: a, [], _, ha, _ => by rw [unify_nil_right]; exact ⟨ha, by simp⟩
  | 0, f :: a, g :: b, hn, _, _ => by simp at hn
  | n + 1, f :: a, g :: b, hn, ha, hb => by
    rw [unify_cons]
    simp only [List.length_cons] at hn
    by_cases h1 : lt f.1 g.1 = true
    · rw [if_pos h1]
      have ih := unify_spec n a (g :: b) (by simp only [List.length_cons]; omega) (asc_tail ha) hb
      cases hu : unify a (g :: b) with
      | none =>
        rw [hu] at ih
        obtain ⟨x, hx, y, hy, e, ne⟩ := ih
        exact ⟨x, List.mem_cons_of_mem _ hx, y, hy, e, ne⟩
      | some u =>
        rw [hu] at ih
        refine ⟨asc_cons (fun y hy => ?_) ih.1, fun y => ?_⟩
        · rcases (ih.2 y).1 hy with h | h
          · exact asc_head ha h
          · rcases List.mem_cons.1 h with rfl | h
            · exact h1
            · exact lt_trans h1 (asc_head hb h)
        · rw [List.mem_cons, ih.2 y, List.mem_cons, List.mem_cons (a := y) (b := f), or_assoc]
    · rw [if_neg h1]
      by_cases h2 : lt g.1 f.1 = true
      · rw [if_pos h2]
        have ih := unify_spec n (f :: a) b (by simp only [List.length_cons]; omega) ha (asc_tail hb)
        cases hu : unify (f :: a) b with
        | none =>
          rw [hu] at ih
          obtain ⟨x, hx, y, hy, e, ne⟩ := ih
          exact ⟨x, hx, y, List.mem_cons_of_mem _ hy, e, ne⟩
        | some u =>
          rw [hu] at ih
          refine ⟨asc_cons (fun y hy => ?_) ih.1, fun y => ?_⟩
          · rcases (ih.2 y).1 hy with h | h
            · rcases List.mem_cons.1 h with rfl | h
              · exact h2
              · exact lt_trans h2 (asc_head ha h)
            · exact asc_head hb h
          · rw [List.mem_cons, ih.2 y, List.mem_cons (a := y) (b := g)]
            constructor
            · rintro (h | h | h)
              · exact .inr (.inl h)
              · exact .inl h
              · exact .inr (.inr h)
            · rintro (h | h | h)
              · exact .inr (.inl h)
              · exact .inl h
              · exact .inr (.inr h)
      · rw [if_neg h2]
        have e1 : f.1 = g.1 := lt_total (by simpa using h1) (by simpa using h2)
        by_cases h3 : f.2 = g.2
        · rw [if_pos h3]
          have hfg : f = g := Prod.ext e1 h3
          subst hfg
          have ih := unify_spec n a b (by omega) (asc_tail ha) (asc_tail hb)
          cases hu : unify a b with
          | none =>
            rw [hu] at ih
            obtain ⟨x, hx, y, hy, e, ne⟩ := ih
            exact ⟨x, List.mem_cons_of_mem _ hx, y, List.mem_cons_of_mem _ hy, e, ne⟩
          | some u =>
            rw [hu] at ih
            refine ⟨asc_cons (fun y hy => ?_) ih.1, fun y => ?_⟩
            · rcases (ih.2 y).1 hy with h | h
              · exact asc_head ha h
              · exact asc_head hb h
            · rw [List.mem_cons, ih.2 y, List.mem_cons, List.mem_cons]
              constructor
              · rintro (h | h | h)
                · exact .inl (.inl h)
                · exact .inl (.inr h)
                · exact .inr (.inr h)
              · rintro ((h | h) | (h | h))
                · exact .inl h
                · exact .inr (.inl h)
                · exact .inl h
                · exact .inr (.inr h)
        · rw [if_neg h3]
          exact ⟨f, by simp, g, by simp, e1, h3⟩

theorem unify_ok {a b : List Ft} (ha : Asc a) (hb : Asc b) : Unified a b (unify a b) := unify_spec _ a b (Nat.le_refl _) ha hb

theorem no_clash {a b u : List Ft} (hu : Asc u) (h : ∀ f, f ∈ u ↔ f ∈ a ∨ f ∈ b) : ¬ Clash a b := by
  rintro ⟨f, hf, g, hg, e, ne⟩
  exact ne (congrArg Prod.snd (asc_eq hu ((h f).2 (.inl hf)) ((h g).2 (.inr hg)) e))

/-- What determines the result of unification. -/
theorem unify_eq_some {a b u : List Ft} (ha : Asc a) (hb : Asc b) (hu : Asc u) (h : ∀ f, f ∈ u ↔ f ∈ a ∨ f ∈ b) : unify a b = some u := by
  have k := unify_ok ha hb
  cases hv : unify a b with
  | none => rw [hv] at k; exact absurd k (no_clash hu h)
  | some v =>
    rw [hv] at k
    rw [asc_ext k.1 hu fun f => (k.2 f).trans (h f).symm]

theorem unify_some {a b u : List Ft} (ha : Asc a) (hb : Asc b) (h : unify a b = some u) : Asc u ∧ ∀ f, f ∈ u ↔ f ∈ a ∨ f ∈ b := by
  have k := unify_ok ha hb
  rw [h] at k
  exact k

theorem unify_none {a b : List Ft} (ha : Asc a) (hb : Asc b) (h : unify a b = none) : Clash a b := by
  have k := unify_ok ha hb
  rw [h] at k
  exact k

/-! ### P2.8 -/
theorem subs_unify {a b : List Ft} (ha : Asc a) (hb : Asc b) : subs a b = true ↔ unify a b = some b := by
  rw [subs_iff ha hb]
  constructor
  · intro h
    exact unify_eq_some ha hb hb fun f => ⟨.inr, fun k => k.elim (h f) id⟩
  · intro h f hf
    exact ((unify_some ha hb h).2 f).2 (.inl hf)

theorem subs_refl {a : List Ft} (ha : Asc a) : subs a a = true := (subs_iff ha ha).2 fun _ h => h
theorem subs_nil (a : List Ft) : subs [] a = true := rfl
theorem subs_antisymm {a b : List Ft} (ha : Asc a) (hb : Asc b) : (subs a b = true ∧ subs b a = true) ↔ a = b := by
  rw [subs_iff ha hb, subs_iff hb ha]
  constructor
  · rintro ⟨h, k⟩
    exact asc_ext ha hb fun f => ⟨h f, k f⟩
  · rintro rfl
    exact ⟨fun _ h => h, fun _ h => h⟩

theorem unify_comm {a b : List Ft} (ha : Asc a) (hb : Asc b) : unify a b = unify b a := by
  have k := unify_ok hb ha
  cases hu : unify b a with
  | none =>
    rw [hu] at k
    cases hv : unify a b with
    | none => rfl
    | some v =>
      exfalso
      have kv := unify_some ha hb hv
      obtain ⟨f, hf, g, hg, e, ne⟩ := k
      exact no_clash kv.1 kv.2 ⟨g, hg, f, hf, e.symm, fun x => ne x.symm⟩
  | some u =>
    rw [hu] at k
    exact unify_eq_some ha hb k.1 fun f => (k.2 f).trans Or.comm

/-- Both orders of unification succeed or fail together, with the same result. -/
theorem unify_assoc {a b c : List Ft} (ha : Asc a) (hb : Asc b) (hc : Asc c) :
    ((unify a b).bind fun u => unify u c) = (unify b c).bind fun v => unify a v := by
  cases hu : unify a b with
  | none =>
    obtain ⟨f, hf, g, hg, e, ne⟩ := unify_none ha hb hu
    cases hv : unify b c with
    | none => rfl
    | some v =>
      have kv := unify_some hb hc hv
      cases hw : unify a v with
      | none => simp [hw]
      | some w =>
        exfalso
        have kw := unify_some ha kv.1 hw
        exact no_clash kw.1 kw.2 ⟨f, hf, g, (kv.2 g).2 (.inl hg), e, ne⟩
  | some u =>
    have ku := unify_some ha hb hu
    cases hv : unify b c with
    | none =>
      obtain ⟨f, hf, g, hg, e, ne⟩ := unify_none hb hc hv
      cases hw : unify u c with
      | none => simp [hw]
      | some w =>
        exfalso
        have kw := unify_some ku.1 hc hw
        exact no_clash kw.1 kw.2 ⟨f, (ku.2 f).2 (.inr hf), g, hg, e, ne⟩
    | some v =>
      have kv := unify_some hb hc hv
      simp only [Option.bind_some]
      cases hw : unify a v with
      | some w =>
        have kw := unify_some ha kv.1 hw
        exact unify_eq_some ku.1 hc kw.1 fun f => by rw [kw.2 f, kv.2 f, ku.2 f, or_assoc]
      | none =>
        cases hx : unify u c with
        | none => rfl
        | some x =>
          exfalso
          have kx := unify_some ku.1 hc hx
          obtain ⟨f, hf, g, hg, e, ne⟩ := unify_none ha kv.1 hw
          have hfx : f ∈ x := (kx.2 f).2 (.inl ((ku.2 f).2 (.inl hf)))
          have hgx : g ∈ x := (kx.2 g).2 (((kv.2 g).1 hg).elim (fun h => .inl ((ku.2 g).2 (.inr h))) .inr)
          exact ne (congrArg Prod.snd (asc_eq kx.1 hfx hgx e))

theorem unify_subs {a b u : List Ft} (ha : Asc a) (hb : Asc b) (h : unify a b = some u) : subs a u = true ∧ subs b u = true := by
  have k := unify_some ha hb h
  exact ⟨(subs_iff ha k.1).2 fun f hf => (k.2 f).2 (.inl hf), (subs_iff hb k.1).2 fun f hf => (k.2 f).2 (.inr hf)⟩

theorem meet_comm {a b : List Ft} (ha : Asc a) (hb : Asc b) : meet a b = meet b a :=
  asc_ext (meet_asc ha) (meet_asc hb) fun f => by rw [meet_mem ha hb, meet_mem hb ha, And.comm]

theorem meet_subs {a b : List Ft} (ha : Asc a) (hb : Asc b) : subs (meet a b) a = true ∧ subs (meet a b) b = true :=
  ⟨(subs_iff (meet_asc ha) ha).2 fun f hf => ((meet_mem ha hb f).1 hf).1, (subs_iff (meet_asc ha) hb).2 fun f hf => ((meet_mem ha hb f).1 hf).2⟩

theorem meet_greatest {a b c : List Ft} (ha : Asc a) (hb : Asc b) (hc : Asc c) : (subs c a = true ∧ subs c b = true) ↔ subs c (meet a b) = true := by
  rw [subs_iff hc ha, subs_iff hc hb, subs_iff hc (meet_asc ha)]
  constructor
  · rintro ⟨h, k⟩ f hf
    exact (meet_mem ha hb f).2 ⟨h f hf, k f hf⟩
  · intro h
    exact ⟨fun f hf => ((meet_mem ha hb f).1 (h f hf)).1, fun f hf => ((meet_mem ha hb f).1 (h f hf)).2⟩

theorem unify_len_aux : ∀ (n : Nat) (a b u : List Ft), a.length + b.length ≤ n → unify a b = some u → u.length ≤ a.length + b.length
  | _, [], b, u, _, h => by rw [unify_nil_left] at h; cases h; simp
  | _, f :: a, [], u, _, h => by rw [unify_nil_right] at h; cases h; simp
  | 0, f :: a, g :: b, u, hn, _ => by simp at hn
  | n + 1, f :: a, g :: b, u, hn, h => by
    rw [unify_cons] at h
    simp only [List.length_cons] at hn ⊢
    split at h
    · obtain ⟨v, hv, rfl⟩ := Option.map_eq_some_iff.1 h
      have := unify_len_aux n a (g :: b) v (by simp only [List.length_cons]; omega) hv
      simp only [List.length_cons] at this ⊢; omega
    · split at h
      · obtain ⟨v, hv, rfl⟩ := Option.map_eq_some_iff.1 h
        have := unify_len_aux n (f :: a) b v (by simp only [List.length_cons]; omega) hv
        simp only [List.length_cons] at this ⊢; omega
      · split at h
        · obtain ⟨v, hv, rfl⟩ := Option.map_eq_some_iff.1 h
          have := unify_len_aux n a b v (by omega) hv
          simp only [List.length_cons]; omega
        · cases h

theorem unify_len {a b u : List Ft} (h : unify a b = some u) : u.length ≤ a.length + b.length := unify_len_aux _ a b u (Nat.le_refl _) h

theorem unify3_subs {a b c u t : List Ft} (ha : Asc a) (hb : Asc b) (hc : Asc c) (hu : unify a b = some u) (ht : unify u c = some t) : subs a t = true ∧ subs b t = true ∧ subs c t = true := by
  have ku := unify_some ha hb hu
  have kt := unify_some ku.1 hc ht
  exact ⟨(subs_iff ha kt.1).2 fun f hf => (kt.2 f).2 (.inl ((ku.2 f).2 (.inl hf))), (subs_iff hb kt.1).2 fun f hf => (kt.2 f).2 (.inl ((ku.2 f).2 (.inr hf))), (subs_iff hc kt.1).2 fun f hf => (kt.2 f).2 (.inr hf)⟩

end Go.Proofs.YtpkhoklahcgcoaaDoor.FeatPlain

namespace Go.Proofs.YtpkhoklahcgcoaaDoor
open Go.RowKit
open FeatPlain

/-- Two features are equal. -/
def feq (f g : Ft) : Bool := decide (f = g)
theorem feq_mk (a b c d : ByteArray) : (a.toList == c.toList && b.toList == d.toList) = feq (a, b) (c, d) := by
  rw [toList_beq, toList_beq]
  unfold feq
  by_cases h1 : a = c <;> by_cases h2 : b = d <;> simp [h1, h2]
theorem feq_true {f g : Ft} (h : f = g) : feq f g = true := by simp [feq, h]
theorem feq_false {f g : Ft} (h : f ≠ g) : feq f g = false := by simp [feq, h]

@[go_sem high] theorem eqlF (f g : Ft) (w : World) :
    (binOp .eql 37 (.agg #[.string f.1, .string f.2]) (.agg #[.string g.1, .string g.2])).run Tryd.prog w = .ok (.bool (feq f g)) w := by
  have e := feq_mk f.1 f.2 g.1 g.2
  go_simp
  rw [show feq f g = feq (f.1, f.2) (g.1, g.2) from rfl, ← e]
  by_cases h1 : f.1.toList = g.1.toList <;> by_cases h2 : f.2.toList = g.2.toList <;> simp [h1, h2]
@[go_sem high] theorem neqF (f g : Ft) (w : World) :
    (binOp .neq 37 (.agg #[.string f.1, .string f.2]) (.agg #[.string g.1, .string g.2])).run Tryd.prog w = .ok (.bool (!(feq f g))) w := by
  have e := feq_mk f.1 f.2 g.1 g.2
  go_simp
  rw [show feq f g = feq (f.1, f.2) (g.1, g.2) from rfl, ← e]
  by_cases h1 : f.1.toList = g.1.toList <;> by_cases h2 : f.2.toList = g.2.toList <;> simp [h1, h2]

/-- THE SLICE '.slice A n c' HOLDS THE FEATURES fs. -/
structure Sl (w : World) (A : Option Addr) (n c : Nat) (fs : List Ft) : Prop where
  len : fs.length = n
  le : n ≤ c
  max : n * 32 ≤ 281474976710656
  cmax : c ≤ 9223372036854775807
  nl : A = none → c = 0
  cells : ∀ i f, fs[i]? = some f → ∃ b off, A = some ⟨b, off, none⟩ ∧ w.cell? ⟨b, off + i * 2, none⟩ = some (.string f.1) ∧ w.cell? ⟨b, off + i * 2 + 1, none⟩ = some (.string f.2)

theorem Sl.kept {w w' : World} {A : Option Addr} {n c : Nat} {fs : List Ft} (h : Sl w A n c fs) (hk : ∀ b off, A = some ⟨b, off, none⟩ → ∀ o, w'.cell? ⟨b, o, none⟩ = w.cell? ⟨b, o, none⟩) : Sl w' A n c fs :=
  ⟨h.len, h.le, h.max, h.cmax, h.nl, fun i f hi => by
    obtain ⟨b, off, hA, h1, h2⟩ := h.cells i f hi
    exact ⟨b, off, hA, (hk b off hA _).trans h1, (hk b off hA _).trans h2⟩⟩

theorem Sl.drewN {w : World} {A : Option Addr} {n c : Nat} {fs : List Ft} (h : Sl w A n c fs) (k : Nat) : Sl (w.drewN k) A n c fs := ⟨h.len, h.le, h.max, h.cmax, h.nl, h.cells⟩

theorem Sl.head {w : World} {A : Option Addr} {n c : Nat} {f : Ft} {fs : List Ft} (h : Sl w A n c (f :: fs)) :
    ∃ b off, A = some ⟨b, off, none⟩ ∧ w.cell? ⟨b, off, none⟩ = some (.string f.1) ∧ w.cell? ⟨b, off + 1, none⟩ = some (.string f.2) := by
  obtain ⟨b, off, hA, h1, h2⟩ := h.cells 0 f rfl
  exact ⟨b, off, hA, by simpa using h1, by simpa using h2⟩

theorem Sl.tail {w : World} {b off n c : Nat} {f : Ft} {fs : List Ft} (h : Sl w (some ⟨b, off, none⟩) n c (f :: fs)) : Sl w (some ⟨b, off + 2, none⟩) (n - 1) (c - 1) fs :=
  ⟨by have := h.len; simp at this; omega, by have := h.le; omega, by have := h.max; omega, by have := h.cmax; omega, (fun e => by cases e), fun i g hi => by
    obtain ⟨b', off', hA, h1, h2⟩ := h.cells (i + 1) g (by simpa using hi)
    simp only [Option.some.injEq, Addr.mk.injEq, and_true] at hA
    obtain ⟨rfl, rfl⟩ := hA
    refine ⟨b, off + 2, rfl, ?_, ?_⟩
    · rw [show off + 2 + i * 2 = off + (i + 1) * 2 from by omega]; exact h1
    · rw [show off + 2 + i * 2 + 1 = off + (i + 1) * 2 + 1 from by omega]; exact h2⟩

theorem Sl.nil {w : World} {A : Option Addr} {c : Nat} (hm : c ≤ 9223372036854775807) (hn : A = none → c = 0) : Sl w A 0 c [] := ⟨rfl, Nat.zero_le _, by omega, hm, hn, fun i f h => by simp at h⟩

theorem Sl.cut {w : World} {b off m c : Nat} {f : Ft} {fs : List Ft} (h : Sl w (some ⟨b, off, none⟩) (m + 1) c (f :: fs)) :
    Sl w (if c = 1 then some ⟨b, off, none⟩ else some ⟨b, off + 2, none⟩) m (c - 1) fs := by
  split
  · have hl := h.len
    have hle := h.le
    simp at hl
    obtain rfl : m = 0 := by omega
    have : fs = [] := List.length_eq_zero_iff.1 hl
    subst this
    exact Sl.nil (by have := h.cmax; omega) (fun e => by cases e)
  · exact h.tail

/-- w' is w with new memory; nothing that was there has changed. -/
def Aft (w w' : World) : Prop := Below w.heap.size w w'
theorem Aft.refl (w : World) : Aft w w := Below.refl _ _
theorem Aft.trans {a b c : World} (h : Aft a b) (k : Aft b c) : Aft a c := Below.trans h (Below.mono k (Below.size h))
theorem Aft.alloc {a w : World} (h : Aft a w) (o : Obj) : Aft a (w.alloc o) := Below.alloc h (Below.size h) o
theorem Aft.drew {a w : World} (h : Aft a w) : Aft a w.drew := Below.drew h
theorem Aft.drewN {a w : World} (h : Aft a w) (n : Nat) : Aft a (w.drewN n) := ⟨h.os, h.tape, h.output, h.size, h.block⟩
theorem Aft.setCell {a w : World} (h : Aft a w) {p : Addr} (hp : a.heap.size ≤ p.block) (u : Value) : Aft a (w.setCell p u) := Below.setCell h hp u
theorem Aft.cell {w w' : World} (h : Aft w w') {p : Addr} {v : Value} (hc : w.cell? p = some v) : w'.cell? p = some v := (Below.cell h (World.block_lt_of_cell? w p hc)).trans hc
theorem Aft.size {w w' : World} (h : Aft w w') : w.heap.size ≤ w'.heap.size := Below.size h
theorem Aft.grown {a w w' : World} {row : Option Nat} (h : Aft a w) (hg : w.grownBy w' row) (hr : ∀ k, row = some k → a.heap.size ≤ k) : Aft a w' := Below.grown h hg (Below.size h) hr

theorem Sl.aft {w w' : World} {A : Option Addr} {n c : Nat} {fs : List Ft} (h : Sl w A n c fs) (k : Aft w w') : Sl w' A n c fs :=
  ⟨h.len, h.le, h.max, h.cmax, h.nl, fun i f hi => by
    obtain ⟨b, off, hA, h1, h2⟩ := h.cells i f hi
    exact ⟨b, off, hA, k.cell h1, k.cell h2⟩⟩

/-- The k-th feature's cells. -/
theorem Sl.at_ {w : World} {A : Option Addr} {n c k : Nat} {fs : List Ft} (h : Sl w A n c fs) (hk : k < n) :
    ∃ b off f, A = some ⟨b, off, none⟩ ∧ fs[k]? = some f ∧ w.cell? ⟨b, off + k * 2, none⟩ = some (.string f.1) ∧ w.cell? ⟨b, off + k * 2 + 1, none⟩ = some (.string f.2) := by
  have hl : k < fs.length := by have := h.len; omega
  have hi : fs[k]? = some fs[k] := List.getElem?_eq_getElem hl
  obtain ⟨b, off, hA, h1, h2⟩ := h.cells k _ hi
  exact ⟨b, off, _, hA, hi, h1, h2⟩

theorem drop_of_get {α : Type} {l : List α} {k : Nat} {x : α} (h : l[k]? = some x) : l.drop k = x :: l.drop (k + 1) := by
  obtain ⟨hk, rfl⟩ := List.getElem?_eq_some_iff.1 h
  exact List.drop_eq_getElem_cons hk

def lenOf : Value → Nat
  | .slice _ n _ => n
  | _ => 0
end Go.Proofs.YtpkhoklahcgcoaaDoor

namespace Go.Proofs.YtpkhoklahcgcoaaDoor
open Go.RowKit
open FeatPlain

def SkipPost (w : World) (l : List Ft) (e : Ending) (w' : World) : Prop := (∃ A' n' c', e = .returned (.slice A' n' c') ∧ Sl w A' n' c' l) ∧ w = w'

end Go.Proofs.YtpkhoklahcgcoaaDoor

namespace Go.Proofs.YtpkhoklahcgcoaaDoor
open Go.RowKit
open FeatPlain

def BoolPost (w : World) (r : Bool) (e : Ending) (w' : World) : Prop := e = .returned (.bool r) ∧ Aft w w'

end Go.Proofs.YtpkhoklahcgcoaaDoor

namespace Go.Proofs.YtpkhoklahcgcoaaDoor
open Go.RowKit
open FeatPlain

def QuietPost (w : World) (r : Bool) (e : Ending) (w' : World) : Prop := e = .returned (.bool r) ∧ ∃ n, w' = w.drewN n

theorem quiet_aft {w w' : World} (h : ∃ n, w' = w.drewN n) : Aft w w' := by
  obtain ⟨n, rfl⟩ := h
  exact (Aft.refl _).drewN _

set_option maxHeartbeats 800000 in
theorem same_any (A : Option Addr) (n c : Nat) (xs : List Ft) (B : Option Addr) (m d : Nat) (ys : List Ft) (w : World) (ha : Sl w A n c xs) (hb : Sl w B m d ys) :
    Calls Tryd.prog 31 #[.slice A n c, .slice B m d] w (QuietPost w (decide (xs = ys))) := by
  have hn := ha.max
  have hnc := ha.le
  have hm := hb.max
  have hmd := hb.le
  have hlen := Lib.hid ha.len
  have hlen2 := Lib.hid hb.len
  by_cases hnm : n = m
  · subst hnm
    go_enter Tryd.func31, Tryd.ntmps31
    go_wp2
    go_loopw [5] (fun i wr => ∃ k, k ≤ n ∧ i = .int .i64 (k : Nat) ∧ xs.take k = ys.take k ∧ ∃ q, wr = w.drewN q) (fun i _ => n - (intOf i).toNat)
    case atStart => exact ⟨0, Nat.zero_le _, rfl, by simp, 0, rfl⟩
    case round =>
      obtain ⟨k, hk, rfl, he, q, rfl⟩ := hrel
      have HE := Lib.hid he
      clear he
      by_cases hlt : k < n
      · obtain ⟨b, off, f, rfl, hf, h1, h2⟩ := ha.at_ hlt
        obtain ⟨b', off', g, rfl, hg, g1, g2⟩ := hb.at_ hlt
        have HF := Lib.hid hf
        have HG := Lib.hid hg
        clear hf hg
        by_cases hfg : f = g
        · have hq : feq f g = true := feq_true hfg
          have HQ := Lib.hid hfg
          clear hfg
          go_wp2
          go_quiet (fail)
          go_wp2
          go_roundw
          case rel => exact ⟨k + 1, by omega, by go_num, by rw [List.take_add_one, List.take_add_one, HE.out, HF.out, HG.out, HQ.out], _, rfl⟩
          case measure => simp [intOf]; omega
        · have hq : feq f g = false := feq_false hfg
          go_wp2
          go_quiet (fail)
          go_wp2
          go_ret
          have hxy : xs ≠ ys := fun e => hfg (by have h1 := HF.out; have h2 := HG.out; rw [e, h2] at h1; exact (Option.some.inj h1).symm)
          exact ⟨by simp [hxy], q + nq, by rw [World.drewN_drewN]⟩
      · obtain rfl : k = n := by omega
        go_wp2
        go_ret
        have hxy : xs = ys := by
          have h := HE.out
          rwa [List.take_of_length_le (by rw [hlen.out]; exact Nat.le_refl _), List.take_of_length_le (by rw [hlen2.out]; exact Nat.le_refl _)] at h
        exact ⟨by simp [hxy], _, rfl⟩
  · have hne : ((n : Int) == (m : Int)) = false := by simp; omega
    go_enter Tryd.func31, Tryd.ntmps31
    go_wp2
    go_ret
    have hxy : xs ≠ ys := fun e => hnm (by rw [← hlen.out, ← hlen2.out, e])
    exact ⟨by simp [hxy], 0, rfl⟩

/-- The names are strictly ascending, neighbour by neighbour. -/
def ascB : List Ft → Bool
  | [] => true
  | [_] => true
  | f :: g :: l => lt f.1 g.1 && ascB (g :: l)

theorem ascB_iff : ∀ l : List Ft, ascB l = true ↔ Asc l
  | [] => by simp [ascB, asc_nil]
  | [f] => by simp [ascB, Asc]
  | f :: g :: l => by
    have ih := ascB_iff (g :: l)
    simp only [ascB, Bool.and_eq_true, ih]
    constructor
    · rintro ⟨h, k⟩
      refine asc_cons (fun x hx => ?_) k
      rcases List.mem_cons.1 hx with rfl | hx
      · exact h
      · exact lt_trans h (asc_head k hx)
    · intro h
      exact ⟨asc_head h (by simp), asc_tail h⟩

theorem ascB_step {l : List Ft} {k : Nat} {f g : Ft} (hf : l[k]? = some f) (hg : l[k + 1]? = some g) : ascB (l.drop k) = (lt f.1 g.1 && ascB (l.drop (k + 1))) := by
  rw [drop_of_get hf, drop_of_get hg]
  rfl

set_option maxHeartbeats 800000 in
theorem record_any (A : Option Addr) (n c : Nat) (xs : List Ft) (w : World) (ha : Sl w A n c xs) :
    Calls Tryd.prog 47 #[.slice A n c] w (QuietPost w (ascB xs)) := by
  have hn := ha.max
  have hnc := ha.le
  have hlen := Lib.hid ha.len
  go_enter Tryd.func47, Tryd.ntmps47
  go_wp2
  go_loopw [3] (fun i wr => ∃ k, k ≤ n ∧ i = .int .i64 ((k : Int) + 1) ∧ ascB xs = ascB (xs.drop k) ∧ ∃ q, wr = w.drewN q) (fun i _ => n + 1 - (intOf i).toNat)
  case atStart => exact ⟨0, Nat.zero_le _, rfl, by simp, 0, rfl⟩
  case round =>
    obtain ⟨k, hk, rfl, he, q, rfl⟩ := hrel
    have HE := Lib.hid he
    clear he
    by_cases hlt : k + 1 < n
    · obtain ⟨b, off, f, rfl, hf, h1, h2⟩ := ha.at_ (show k < n by omega)
      obtain ⟨b', off', g, hA, hg, g1, g2⟩ := ha.at_ hlt
      simp only [Option.some.injEq, Addr.mk.injEq, and_true] at hA
      obtain ⟨rfl, rfl⟩ := hA
      have HF := Lib.hid hf
      have HG := Lib.hid hg
      clear hf hg
      by_cases hfg : lt f.1 g.1 = true
      · have hq : Op.bytesLess f.1.toList g.1.toList = true := hfg
        go_wp2
        go_quiet (fail)
        go_wp2
        go_roundw
        case rel => exact ⟨k + 1, by omega, by go_num, by rw [HE.out, ascB_step HF.out HG.out, hfg]; rfl, _, rfl⟩
        case measure => simp [intOf]; omega
      · have hq : Op.bytesLess f.1.toList g.1.toList = false := by simpa [lt] using hfg
        go_wp2
        go_quiet (fail)
        go_wp2
        go_ret
        refine ⟨?_, q + nq, by rw [World.drewN_drewN]⟩
        have hz : lt f.1 g.1 = false := by simpa using hfg
        rw [HE.out, ascB_step HF.out HG.out, hz]
        rfl
    · go_wp2
      go_ret
      refine ⟨?_, _, rfl⟩
      rw [HE.out]
      have hl : (xs.drop k).length ≤ 1 := by rw [List.length_drop, hlen.out]; omega
      match xs.drop k, hl with
      | [], _ => rfl
      | [_], _ => rfl
end Go.Proofs.YtpkhoklahcgcoaaDoor

namespace Go.Proofs.YtpkhoklahcgcoaaDoor
open Go.RowKit
open FeatPlain

/-- append within the capacity, as one step of a region that draws its order. -/
theorem step_append_fits {P : Program} {ops : Array Oper} {o : Oper} {a : Act} {w : World} {K : Act → World → Prop} {Q : Exit → Act → World → Prop} {E : Prop}
    (hg : o.guard = none) (s x : Operand) (t : TypeId) (hop : o.op = Op.call { callee := Callee.builtin Builtin.append, args := #[s, x], argTypes := #[t, t] })
    (base : Nat) (e : TypeId) (i : TypeInfo) (size : Nat) (h1 : P.underlying t = some (.slice e)) (h2 : P.info? e = some i) (h4 : i.size = size)
    (g k cap : Nat) (xs : List Value) (hs : a.eval s = .slice (some ⟨g, 0, none⟩) k cap) (hown : w.ownsRow base e size (.slice (some ⟨g, 0, none⟩) k cap) k xs)
    (ad : Addr) (m c : Nat) (news : List Value) (hx : a.eval x = .slice (some ad) m c) (hn : news.length = m * size)
    (hc : ∀ j u, news[j]? = some u → w.cell? (ad.add j) = some u) (h1c : ∀ u ∈ news, u.oneCell' = true) (b1 : k + m ≤ cap)
    (hK : ∀ w', w'.ownsRow base e size (.slice (some ⟨g, 0, none⟩) (k + m) cap) (k + m) (xs ++ news) → w.grownBy w' (some g) → K (a.put o.dst (.slice (some ⟨g, 0, none⟩) (k + m) cap)) w') :
    if Region.wanted o (yielded ops a.tmps) = true then Oper.wp P o a w K Q else E := by
  have hw : Region.wanted o (yielded ops a.tmps) = true := by simp [Region.wanted, hg]
  rw [if_pos hw]
  obtain ⟨w', hrun, r1, r2⟩ := run_append_fits (P := P) w base t o.type e i size h1 h2 h4 g k cap xs hown ad m c news hn hc h1c b1
  unfold Oper.wp
  simp [execOp, hop, resolve, invoke, builtin, hs, hx, hrun, Result.andThen]
  exact hK w' r1 r2

/-- The cells of a list of features. -/
def flat : List Ft → List Value
  | [] => []
  | f :: l => .string f.1 :: .string f.2 :: flat l

theorem flat_append : ∀ a b : List Ft, flat (a ++ b) = flat a ++ flat b
  | [], _ => rfl
  | f :: a, b => by simp [flat, flat_append a b]
theorem flat_length : ∀ a : List Ft, (flat a).length = a.length * 2
  | [] => rfl
  | f :: a => by simp [flat, flat_length a]; omega
theorem flat_get : ∀ (a : List Ft) (i : Nat) (f : Ft), a[i]? = some f → (flat a)[i * 2]? = some (.string f.1) ∧ (flat a)[i * 2 + 1]? = some (.string f.2)
  | x :: a, 0, f, h => by simp at h; subst h; exact ⟨rfl, rfl⟩
  | x :: a, i + 1, f, h => by
    have := flat_get a i f (by simpa using h)
    rw [show (i + 1) * 2 = i * 2 + 1 + 1 from by omega]
    exact ⟨this.1, this.2⟩
theorem flat_one : ∀ (a : List Ft), ∀ u ∈ flat a, u.oneCell' = true
  | [], u, h => by cases h
  | f :: a, u, h => by
    simp only [flat, List.mem_cons] at h
    rcases h with rfl | rfl | h
    · rfl
    · rfl
    · exact flat_one a u h

theorem Sl.of_own {w : World} {base g n cap : Nat} {fs : List Ft} (h : w.ownsRow base 37 2 (.slice (some ⟨g, 0, none⟩) n cap) n (flat fs)) (hl : fs.length = n) (hle : n ≤ cap) (hm : n * 32 ≤ 281474976710656) :
    Sl w (some ⟨g, 0, none⟩) n cap fs :=
  ⟨hl, hle, hm, by rcases h.2 with ⟨e, _⟩ | ⟨g', cap', cur, e, _, _, _, hc, _⟩; (· cases e); (· cases e; unfold maxLen at hc; omega), fun e => (by cases e), fun i f hi => by
    have hlt : i < n := by have := (List.getElem?_eq_some_iff.1 hi).1; omega
    have hx := flat_get fs i f hi
    refine ⟨g, 0, rfl, ?_, ?_⟩
    · rw [Nat.zero_add, h.cellAt _ (by omega)]; exact hx.1
    · rw [Nat.zero_add, h.cellAt _ (by omega)]; exact hx.2⟩

theorem Tryd.infoF : (Tryd.prog.info? 37).map (fun i => (i.zero, i.size, i.bytes)) = some (some (.agg #[.string ByteArray.empty, .string ByteArray.empty]), 2, 32) := by kernel_rfl

theorem one_cells (w : World) (f : Ft) : ∀ j u, (flat [f])[j]? = some u → (w.alloc (.cells #[.string f.1, .string f.2] 37)).cell? ((⟨w.heap.size, 0, none⟩ : Addr).add j) = some u := by
  intro j u hj
  match j, hj with
  | 0, hj => simp [flat] at hj; subst hj; simp [Addr.add]
  | 1, hj => simp [flat] at hj; subst hj; simp [Addr.add]
  | j + 2, hj => simp [flat] at hj

def UnifyPost (w : World) (r : Option (List Ft)) (e : Ending) (w' : World) : Prop :=
  Aft w w' ∧ match r with
  | none => e = .returned (.tuple #[.slice none 0 0, .bool false])
  | some u => ∃ A n c, e = .returned (.tuple #[.slice A n c, .bool true]) ∧ Sl w' A n c u

/-- What a round of Unify's loop keeps. -/
structure URel (w : World) (xs ys : List Ft) (cap : Nat) (v0 v1 v6 : Value) (wr : World) (A : Option Addr) (n c : Nat) (xs' : List Ft) (B : Option Addr) (m d : Nat) (ys' : List Ft) (k : Nat) (out : List Ft) : Prop where
  e0 : v0 = .slice A n c
  e1 : v1 = .slice B m d
  e6 : v6 = .slice (some ⟨w.heap.size, 0, none⟩) k cap
  ha : Sl wr A n c xs'
  hb : Sl wr B m d ys'
  ca : ∀ b off, A = some ⟨b, off, none⟩ → 0 < n → b < w.heap.size
  cb : ∀ b off, B = some ⟨b, off, none⟩ → 0 < m → b < w.heap.size
  own : wr.ownsRow w.heap.size 37 2 (.slice (some ⟨w.heap.size, 0, none⟩) k cap) k (flat out)
  len : out.length = k
  room : k + n + m ≤ cap
  eq : unify xs ys = (unify xs' ys').map (out ++ ·)
  aft : Aft w wr

def URelEx (w : World) (xs ys : List Ft) (cap : Nat) (v0 v1 v6 : Value) (wr : World) : Prop := ∃ A n c xs' B m d ys' k out, URel w xs ys cap v0 v1 v6 wr A n c xs' B m d ys' k out

theorem Sl.lt {w : World} {A : Option Addr} {n c : Nat} {fs : List Ft} (h : Sl w A n c fs) {b off : Nat} (hA : A = some ⟨b, off, none⟩) (hn : 0 < n) : b < w.heap.size := by
  obtain ⟨b', off', f, hA', _, h1, _⟩ := h.at_ hn
  rw [hA] at hA'
  simp only [Option.some.injEq, Addr.mk.injEq, and_true] at hA'
  obtain ⟨rfl, rfl⟩ := hA'
  exact World.block_lt_of_cell? w _ h1

theorem Sl.flatCells {w : World} {A : Option Addr} {n c : Nat} {fs : List Ft} (h : Sl w A n c fs) : ∀ ad, A = some ad → ∀ j u, (flat fs)[j]? = some u → w.cell? (ad.add j) = some u := by
  intro ad hA j u hj
  have hlt : j < fs.length * 2 := by rw [← flat_length]; exact (List.getElem?_eq_some_iff.1 hj).1
  have hi : j / 2 < fs.length := by omega
  have hget : fs[j / 2]? = some fs[j / 2] := List.getElem?_eq_getElem hi
  obtain ⟨b, off, hA', h1, h2⟩ := h.cells (j / 2) _ hget
  have hfg := flat_get fs (j / 2) _ hget
  rw [hA] at hA'
  obtain rfl := Option.some.inj hA'
  rw [Addr.add_lit]
  generalize fs[j / 2] = x at h1 h2 hfg
  rcases Nat.mod_two_eq_zero_or_one j with hm | hm
  · have ej : j / 2 * 2 = j := by omega
    rw [ej] at h1 hfg
    rw [hfg.1] at hj
    rw [h1]; exact hj
  · have ej : j / 2 * 2 + 1 = j := by omega
    rw [Nat.add_assoc, ej] at h2
    rw [ej] at hfg
    rw [hfg.2] at hj
    rw [h2]; exact hj

theorem Sl.len0 {w : World} {A : Option Addr} {n c : Nat} {fs : List Ft} (h : Sl w A n c fs) (e : A = none) : n = 0 := by have := h.nl e; have := h.le; omega

/-- What lies in older blocks than the row that grew stays. -/
theorem Sl.grownB {w w' : World} {A : Option Addr} {n c g : Nat} {fs : List Ft} (h : Sl w A n c fs) (hg : w.grownBy w' (some g)) (hlt : ∀ b off, A = some ⟨b, off, none⟩ → 0 < n → b < g) : Sl w' A n c fs :=
  ⟨h.len, h.le, h.max, h.cmax, h.nl, fun i f hi => by
    obtain ⟨b, off, hA, h1, h2⟩ := h.cells i f hi
    have hn : 0 < n := by have := (List.getElem?_eq_some_iff.1 hi).1; have := h.len; omega
    have hb := hlt b off hA hn
    have hbw : b < w.heap.size := World.block_lt_of_cell? w _ h1
    have hs := hg.block b hbw (fun e => by cases e; omega)
    exact ⟨b, off, hA, (World.cell?_of_block (w := w) hs).trans h1, (World.cell?_of_block (w := w) hs).trans h2⟩⟩

theorem Sl.cut1 {w : World} {b off m c : Nat} {f : Ft} {fs : List Ft} (h : Sl w (some ⟨b, off, none⟩) (m + 1) c (f :: fs)) (e : c = 1) : Sl w (some ⟨b, off, none⟩) m 0 fs := by
  have := h.cut
  rwa [if_pos e, e] at this

theorem Sl.cut2 {w : World} {b off m c : Nat} {f : Ft} {fs : List Ft} (h : Sl w (some ⟨b, off, none⟩) (m + 1) c (f :: fs)) : Sl w (some ⟨b, off + 2, none⟩) m (c - 1) fs := h.tail

theorem URelEx.next {w wr w1 w2 : World} {xs ys : List Ft} {cap : Nat} {A : Option Addr} {n c : Nat} {B : Option Addr} {m d k : Nat} {out : List Ft} (xs' ys' : List Ft) (x : Ft)
    (ha : Sl wr A n c xs') (hb : Sl wr B m d ys') (ca : ∀ b off, A = some ⟨b, off, none⟩ → 0 < n → b < w.heap.size) (cb : ∀ b off, B = some ⟨b, off, none⟩ → 0 < m → b < w.heap.size)
    (own : w2.ownsRow w.heap.size 37 2 (.slice (some ⟨w.heap.size, 0, none⟩) (k + 1) cap) (k + 1) (flat out ++ flat [x])) (h1 : Aft wr w1) (hg : w1.grownBy w2 (some w.heap.size))
    (len : out.length = k) (room : k + 1 + n + m ≤ cap) (aft : Aft w wr) (eq : unify xs ys = (unify xs' ys').map ((out ++ [x]) ++ ·)) :
    URelEx w xs ys cap (.slice A n c) (.slice B m d) (.slice (some ⟨w.heap.size, 0, none⟩) (k + 1) cap) w2 :=
  ⟨A, n, c, xs', B, m, d, ys', k + 1, out ++ [x], rfl, rfl, rfl, (ha.aft h1).grownB hg ca, (hb.aft h1).grownB hg cb, ca, cb, by rw [flat_append]; exact own, by simp [len], room, eq,
    (aft.trans h1).grown hg (fun _ e => by cases e; exact Nat.le_refl _)⟩

theorem eq_left {xs ys a b out : List Ft} {f g : Ft} (h : unify xs ys = (unify (f :: a) (g :: b)).map (out ++ ·)) (c : lt f.1 g.1 = true) : unify xs ys = (unify a (g :: b)).map ((out ++ [f]) ++ ·) := by
  rw [h, unify_cons, if_pos c]; simp [Option.map_map, Function.comp_def]
theorem eq_right {xs ys a b out : List Ft} {f g : Ft} (h : unify xs ys = (unify (f :: a) (g :: b)).map (out ++ ·)) (c : lt f.1 g.1 = false) (d : lt g.1 f.1 = true) : unify xs ys = (unify (f :: a) b).map ((out ++ [g]) ++ ·) := by
  rw [h, unify_cons, if_neg (by simp [c]), if_pos d]; simp [Option.map_map, Function.comp_def]
theorem eq_both {xs ys a b out : List Ft} {f g : Ft} (h : unify xs ys = (unify (f :: a) (g :: b)).map (out ++ ·)) (c : lt f.1 g.1 = false) (d : lt g.1 f.1 = false) (e : f.2 = g.2) : unify xs ys = (unify a b).map ((out ++ [f]) ++ ·) := by
  rw [h, unify_cons, if_neg (by simp [c]), if_neg (by simp [d]), if_pos e]; simp [Option.map_map, Function.comp_def]
theorem eq_none {xs ys a b out : List Ft} {f g : Ft} (h : unify xs ys = (unify (f :: a) (g :: b)).map (out ++ ·)) (c : lt f.1 g.1 = false) (d : lt g.1 f.1 = false) (e : ¬ f.2 = g.2) : unify xs ys = none := by
  rw [h, unify_cons, if_neg (by simp [c]), if_neg (by simp [d]), if_neg e]; rfl

theorem unify_end {w w3 : World} {xs ys xs' ys' out : List Ft} {k n m cap : Nat} {vs : List Value} {l : Nat} (h : unify xs ys = (unify xs' ys').map (out ++ ·)) (hu : unify xs' ys' = some (xs' ++ ys')) (aft : Aft w w3)
    (own : w3.ownsRow w.heap.size 37 2 (.slice (some ⟨w.heap.size, 0, none⟩) l cap) l vs) (hv : vs = flat out ++ flat xs' ++ flat ys') (hl : l = k + n + m) (ho : out.length = k) (hn : xs'.length = n) (hm : ys'.length = m) (hr : k + n + m ≤ cap) (hc : cap * 32 ≤ 281474976710656) :
    UnifyPost w (unify xs ys) (.returned (.tuple #[.slice (some ⟨w.heap.size, 0, none⟩) l cap, .bool true])) w3 := by
  refine ⟨aft, ?_⟩
  rw [h, hu]
  subst hv
  refine ⟨_, _, _, rfl, Sl.of_own (base := w.heap.size) ?_ ?_ (by omega) (by omega)⟩
  · rw [flat_append, flat_append, ← List.append_assoc]; exact own
  · simp; omega

end Go.Proofs.YtpkhoklahcgcoaaDoor

namespace Go.Proofs.YtpkhoklahcgcoaaDoor
open Go.RowKit
open FeatPlain

def nameByte (c : UInt8) : Bool := (97 ≤ c && c ≤ 122) || (48 ≤ c && c ≤ 57) || c == 45
/-- A name: nonempty, all bytes fit. -/
def isName (s : ByteArray) : Bool := s.data.toList.all nameByte && decide (0 < s.size)

theorem nameByte_iff (c : UInt8) : nameByte c = true ↔ ((97 : Int) ≤ (c.toNat : Int) ∧ (c.toNat : Int) ≤ 122) ∨ ((48 : Int) ≤ (c.toNat : Int) ∧ (c.toNat : Int) ≤ 57) ∨ (c.toNat : Int) = 45 := by
  have e : c = 45 ↔ (c.toNat : Int) = 45 := by
    constructor
    · rintro rfl; rfl
    · intro h; exact UInt8.toNat_inj.1 (by simpa using (by omega : c.toNat = 45))
  unfold nameByte
  simp only [Bool.or_eq_true, Bool.and_eq_true, decide_eq_true_eq, UInt8.le_iff_toNat_le, beq_iff_eq, e]
  simp
  omega

theorem take_snoc (s : ByteArray) (k : Nat) (h : k < s.size) : s.data.toList.take (k + 1) = s.data.toList.take k ++ [s[k]] := by
  rw [List.take_succ_eq_append_getElem (by simpa using h)]; rfl

theorem all_good {s : ByteArray} {k : Nat} (h : k < s.size) (ha : (s.data.toList.take k).all nameByte = true)
    (hc : ((97 : Int) ≤ (s[k].toNat : Int) ∧ (s[k].toNat : Int) ≤ 122) ∨ ((48 : Int) ≤ (s[k].toNat : Int) ∧ (s[k].toNat : Int) ≤ 57) ∨ (s[k].toNat : Int) = 45) : (s.data.toList.take (k + 1)).all nameByte = true := by
  rw [take_snoc s k h, List.all_append, ha]
  simp [(nameByte_iff _).2 hc]

theorem all_bad {s : ByteArray} {k : Nat} (h : k < s.size)
    (hc : ¬ (((97 : Int) ≤ (s[k].toNat : Int) ∧ (s[k].toNat : Int) ≤ 122) ∨ ((48 : Int) ≤ (s[k].toNat : Int) ∧ (s[k].toNat : Int) ≤ 57) ∨ (s[k].toNat : Int) = 45)) : isName s = false := by
  have hn : nameByte s[k] = false := by
    cases e : nameByte s[k]
    · rfl
    · exact absurd ((nameByte_iff _).1 e) hc
  have hm : s[k] ∈ s.data.toList := by
    show s.data.toList[k]'(by simpa using h) ∈ _
    exact List.getElem_mem _
  unfold isName
  have : s.data.toList.all nameByte = false := by
    rw [List.all_eq_false]
    exact ⟨_, hm, by simp [hn]⟩
  rw [this]; rfl

theorem all_end {s : ByteArray} (ha : (s.data.toList.take s.size).all nameByte = true) : isName s = decide (0 < s.size) := by
  rw [List.take_of_length_le (by simp)] at ha
  unfold isName
  rw [ha]; rfl

theorem neq_empty (s : ByteArray) : (!s.toList.isEmpty) = decide (0 < s.size) := by
  rw [ByteArray.toList_eq]
  obtain ⟨⟨l⟩⟩ := s
  cases l <;> simp [ByteArray.size]

def SamePost (w : World) (r : Bool) (e : Ending) (w' : World) : Prop := e = .returned (.bool r) ∧ w = w'

set_option maxHeartbeats 800000 in
theorem isName_any (s : ByteArray) (w : World) (hs : s.size ≤ maxLen) : Calls Tryd.prog 57 #[.string s] w (SamePost w (isName s)) := by
  unfold maxLen at hs
  go_enter Tryd.func57, Tryd.ntmps57
  go_wp2
  go_loop [7] (fun i => ∃ k : Nat, k ≤ s.size ∧ i = .int .i64 k ∧ (s.data.toList.take k).all nameByte = true) (fun i => s.size - (intOf i).toNat)
  case atStart => exact ⟨0, Nat.zero_le _, rfl, by simp⟩
  case round =>
    obtain ⟨k, hk, rfl, ha⟩ := hrel
    have HA := Lib.hid ha
    clear ha
    by_cases hlt : k < s.size
    · have h7 : ((97 : Int) ≤ (s[k].toNat : Int) ∧ (s[k].toNat : Int) ≤ 122) ∨ ((48 : Int) ≤ (s[k].toNat : Int) ∧ (s[k].toNat : Int) ≤ 57) ∨ ((45 : Int) ≤ (s[k].toNat : Int) ∧ (s[k].toNat : Int) ≤ 45) ∨
          (s[k].toNat : Int) < 45 ∨ ((45 : Int) < (s[k].toNat : Int) ∧ (s[k].toNat : Int) < 48) ∨ ((57 : Int) < (s[k].toNat : Int) ∧ (s[k].toNat : Int) < 97) ∨ (122 : Int) < (s[k].toNat : Int) := by omega
      rcases h7 with ⟨a1, a2⟩ | ⟨a1, a2⟩ | ⟨a1, a2⟩ | a1 | ⟨a1, a2⟩ | ⟨a1, a2⟩ | a1
      · go_wp2
        go_round
        case rel => exact ⟨k + 1, by omega, by go_num, all_good hlt HA.out (by omega)⟩
        case measure => simp [intOf]; omega
      · go_wp2
        go_round
        case rel => exact ⟨k + 1, by omega, by go_num, all_good hlt HA.out (by omega)⟩
        case measure => simp [intOf]; omega
      · have e45 : (s[k].toNat : Int) = 45 := by omega
        have b45 : ((s[k].toNat : Int) != 45) = false := by rw [e45]; rfl
        have b46 : ((s[k].toNat : Int) == 45) = true := by rw [e45]; rfl
        have E45 := Lib.hid e45
        clear e45
        go_wp2
        go_round
        case rel => exact ⟨k + 1, by omega, by go_num, all_good hlt HA.out (.inr (.inr E45.out))⟩
        case measure => simp [intOf]; omega
      all_goals
        have b45 : ((s[k].toNat : Int) != 45) = true := by rw [bne_iff_ne]; omega
        go_wp2
        go_ret
        exact ⟨by rw [all_bad hlt (by omega)]; rfl, rfl⟩
    · obtain rfl : k = s.size := by omega
      go_wp2
      go_ret
      refine ⟨?_, rfl⟩
      rw [all_end HA.out, ← neq_empty]
      rfl

set_option maxHeartbeats 800000 in
theorem name_any (s : ByteArray) (w : World) (hs : s.size ≤ maxLen) : Calls Tryd.prog 46 #[.string s] w (SamePost w (isName s)) := by
  unfold maxLen at hs
  go_enter Tryd.func46, Tryd.ntmps46
  go_wp2
  go_loop [3] (fun i => ∃ k : Nat, k ≤ s.size ∧ i = .int .i64 k ∧ (s.data.toList.take k).all nameByte = true) (fun i => s.size - (intOf i).toNat)
  case atStart => exact ⟨0, Nat.zero_le _, rfl, by simp⟩
  case round =>
    obtain ⟨k, hk, rfl, ha⟩ := hrel
    have HA := Lib.hid ha
    clear ha
    by_cases hlt : k < s.size
    · have h7 : ((97 : Int) ≤ (s[k].toNat : Int) ∧ (s[k].toNat : Int) ≤ 122) ∨ ((48 : Int) ≤ (s[k].toNat : Int) ∧ (s[k].toNat : Int) ≤ 57) ∨ ((45 : Int) ≤ (s[k].toNat : Int) ∧ (s[k].toNat : Int) ≤ 45) ∨
          (s[k].toNat : Int) < 45 ∨ ((45 : Int) < (s[k].toNat : Int) ∧ (s[k].toNat : Int) < 48) ∨ ((57 : Int) < (s[k].toNat : Int) ∧ (s[k].toNat : Int) < 97) ∨ (122 : Int) < (s[k].toNat : Int) := by omega
      rcases h7 with ⟨a1, a2⟩ | ⟨a1, a2⟩ | ⟨a1, a2⟩ | a1 | ⟨a1, a2⟩ | ⟨a1, a2⟩ | a1
      · go_wp2
        go_round
        case rel => exact ⟨k + 1, by omega, by go_num, all_good hlt HA.out (by omega)⟩
        case measure => simp [intOf]; omega
      · go_wp2
        go_round
        case rel => exact ⟨k + 1, by omega, by go_num, all_good hlt HA.out (by omega)⟩
        case measure => simp [intOf]; omega
      · have e45 : (s[k].toNat : Int) = 45 := by omega
        have b45 : ((s[k].toNat : Int) != 45) = false := by rw [e45]; rfl
        have b46 : ((s[k].toNat : Int) == 45) = true := by rw [e45]; rfl
        have E45 := Lib.hid e45
        clear e45
        go_wp2
        go_round
        case rel => exact ⟨k + 1, by omega, by go_num, all_good hlt HA.out (.inr (.inr E45.out))⟩
        case measure => simp [intOf]; omega
      all_goals
        have b45 : ((s[k].toNat : Int) != 45) = true := by rw [bne_iff_ne]; omega
        go_wp2
        go_ret
        exact ⟨by rw [all_bad hlt (by omega)]; rfl, rfl⟩
    · obtain rfl : k = s.size := by omega
      go_wp2
      go_ret
      refine ⟨?_, rfl⟩
      rw [all_end HA.out, ← neq_empty]
      rfl
end Go.Proofs.YtpkhoklahcgcoaaDoor

namespace Go.Proofs.YtpkhoklahcgcoaaDoor
open Go.RowKit
open FeatPlain

/-- No string is too long. -/
def Sized (fs : List Ft) : Prop := ∀ f ∈ fs, f.1.size ≤ maxLen ∧ f.2.size ≤ maxLen
theorem Sized.get {fs : List Ft} (h : Sized fs) {k : Nat} {f : Ft} (hk : fs[k]? = some f) : f.1.size ≤ maxLen ∧ f.2.size ≤ maxLen := h f (List.mem_of_getElem? hk)

def named (f : Ft) : Bool := isName f.1 && isName f.2
/-- A valid record. -/
def validB (fs : List Ft) : Bool := decide (fs.length ≤ 8) && (fs.all named && ascB fs)

/-- The first k features have names, and are in order. -/
def OkTo (fs : List Ft) (k : Nat) : Prop := (fs.take k).all named = true ∧ ∀ j f g, j + 1 < k → fs[j]? = some f → fs[j + 1]? = some g → lt f.1 g.1 = true

theorem okTo_zero (fs : List Ft) : OkTo fs 0 := ⟨by simp, fun j _ _ h => by omega⟩

theorem okTo_first {fs : List Ft} {f : Ft} (hf : fs[0]? = some f) (hn : named f = true) : OkTo fs 1 :=
  ⟨by rw [List.take_add_one, hf]; simp [hn], fun j _ _ h => by omega⟩

theorem okTo_next {fs : List Ft} {k : Nat} {f g : Ft} (h : OkTo fs (k + 1)) (hf : fs[k]? = some f) (hg : fs[k + 1]? = some g) (hn : named g = true) (hl : lt f.1 g.1 = true) : OkTo fs (k + 1 + 1) := by
  refine ⟨by rw [List.take_add_one, List.all_append, h.1, hg]; simp [hn], fun j x y hj hx hy => ?_⟩
  by_cases e : j = k
  · subst e
    rw [hf] at hx; rw [hg] at hy
    cases hx; cases hy
    exact hl
  · exact h.2 j x y (by omega) hx hy

theorem ascB_get : ∀ (l : List Ft), ascB l = true ↔ ∀ j f g, l[j]? = some f → l[j + 1]? = some g → lt f.1 g.1 = true
  | [] => by simp [ascB]
  | [x] => by simp [ascB]
  | x :: y :: l => by
    have ih := ascB_get (y :: l)
    simp only [ascB, Bool.and_eq_true, ih]
    constructor
    · rintro ⟨h, k⟩ j f g hf hg
      match j with
      | 0 => simp at hf hg; subst hf; subst hg; exact h
      | j + 1 => exact k j f g (by simpa using hf) (by simpa using hg)
    · intro h
      exact ⟨h 0 x y rfl rfl, fun j f g hf hg => h (j + 1) f g (by simpa using hf) (by simpa using hg)⟩

theorem valid_end {fs : List Ft} (h : OkTo fs fs.length) (hl : fs.length ≤ 8) : validB fs = true := by
  have h1 : fs.all named = true := by have := h.1; rwa [List.take_length] at this
  have h2 : ascB fs = true := (ascB_get fs).2 fun j f g hf hg => h.2 j f g (List.getElem?_eq_some_iff.1 hg).1 hf hg
  unfold validB
  simp [h1, h2, hl]

theorem valid_long {fs : List Ft} (hl : ¬ fs.length ≤ 8) : validB fs = false := by simp [validB, hl]
theorem valid_bad {fs : List Ft} {k : Nat} {f : Ft} (hf : fs[k]? = some f) (hn : named f = false) : validB fs = false := by
  have : fs.all named = false := List.all_eq_false.2 ⟨f, List.mem_of_getElem? hf, by simp [hn]⟩
  simp [validB, this]
theorem valid_order {fs : List Ft} {k : Nat} {f g : Ft} (hf : fs[k]? = some f) (hg : fs[k + 1]? = some g) (hl : lt f.1 g.1 = false) : validB fs = false := by
  have : ascB fs = false := by
    cases e : ascB fs
    · rfl
    · have := (ascB_get fs).1 e k f g hf hg; rw [hl] at this; cases this
  simp [validB, this]

set_option maxRecDepth 100000 in
set_option maxHeartbeats 1600000 in
theorem valid_any (A : Option Addr) (n c : Nat) (xs : List Ft) (w : World) (ha : Sl w A n c xs) (hz : Sized xs) :
    Calls Tryd.prog 41 #[.slice A n c] w (BoolPost w (validB xs)) := by
  have hn := ha.max
  have hnc := ha.le
  have hlen := Lib.hid ha.len
  by_cases h8 : n ≤ 8
  · go_enter Tryd.func41, Tryd.ntmps41
    go_wp2
    go_loopw [10] (fun i wr => ∃ k, k ≤ n ∧ i = .int .i64 (k : Nat) ∧ OkTo xs k ∧ Aft w wr) (fun i _ => n - (intOf i).toNat)
    case atStart => exact ⟨0, Nat.zero_le _, rfl, okTo_zero _, Aft.refl _⟩
    case round =>
      obtain ⟨k, hk, rfl, hok, haf⟩ := hrel
      by_cases hlt : k < n
      · obtain ⟨b, off, f, rfl, hf, h1, h2⟩ := ha.at_ hlt
        have c1 := haf.cell h1
        have c2 := haf.cell h2
        have hz1 := hz.get hf
        have HF := Lib.hid hf
        clear hf h1 h2
        by_cases n1 : isName f.1 = true
        · by_cases n2 : isName f.2 = true
          · have hnm : named f = true := by simp [named, n1, n2]
            cases k with
            | zero =>
              simp only [Nat.zero_mul, Nat.add_zero] at c1 c2
              go_wp2_with fail
              refine (isName_any _ _ hz1.1).mono ?_
              rintro e w1 ⟨rfl, rfl⟩
              go_wp2_with fail
              refine (isName_any _ _ hz1.2).mono ?_
              rintro e w1 ⟨rfl, rfl⟩
              go_wp2
              go_quiet (fail)
              go_wp2
              go_roundw
              case rel => exact ⟨1, by omega, rfl, okTo_first HF.out hnm, (haf.alloc _).drewN _⟩
              case measure => simp [intOf]; omega
            | succ j =>
              obtain ⟨b', off', g, hA, hg, g1, g2⟩ := ha.at_ (show j < n by omega)
              simp only [Option.some.injEq, Addr.mk.injEq, and_true] at hA
              obtain ⟨rfl, rfl⟩ := hA
              have d1 := fun o => (haf.alloc o).cell g1
              have HG := Lib.hid hg
              clear hg g1 g2
              have hw : IntKind.i64.wrap (j : Int) = (j : Int) := by rw [IntKind.wrap_i64]; omega
              have hj : (j : Int) < (n : Int) := by omega
              by_cases hgf : lt g.1 f.1 = true
              · have hq : Op.bytesLess g.1.toList f.1.toList = true := hgf
                go_wp2_with fail
                refine (isName_any _ _ hz1.1).mono ?_
                rintro e w1 ⟨rfl, rfl⟩
                go_wp2_with fail
                refine (isName_any _ _ hz1.2).mono ?_
                rintro e w1 ⟨rfl, rfl⟩
                go_wp2
                go_quiet (fail)
                go_wp2
                go_roundw
                case rel => exact ⟨j + 1 + 1, by omega, by go_num, okTo_next hok HG.out HF.out hnm hgf, (haf.alloc _).drewN _⟩
                case measure => simp [intOf]; omega
              · have hq : Op.bytesLess g.1.toList f.1.toList = false := by simpa [lt] using hgf
                go_wp2_with fail
                refine (isName_any _ _ hz1.1).mono ?_
                rintro e w1 ⟨rfl, rfl⟩
                go_wp2_with fail
                refine (isName_any _ _ hz1.2).mono ?_
                rintro e w1 ⟨rfl, rfl⟩
                go_wp2
                go_quiet (fail)
                go_wp2
                go_ret
                exact ⟨by rw [valid_order HG.out HF.out (by simpa using hgf)]; rfl, (haf.alloc _).drewN _⟩
          · have hnm : named f = false := by simp [named, n2]
            have n2' : isName f.2 = false := by simpa using n2
            clear n2
            go_wp2_with fail
            refine (isName_any _ _ hz1.1).mono ?_
            rintro e w1 ⟨rfl, rfl⟩
            go_wp2_with fail
            refine (isName_any _ _ hz1.2).mono ?_
            rintro e w1 ⟨rfl, rfl⟩
            go_wp2
            go_ret
            exact ⟨by rw [valid_bad HF.out hnm]; rfl, haf.alloc _⟩
        · have hnm : named f = false := by simp [named, n1]
          have n1' : isName f.1 = false := by simpa using n1
          clear n1
          go_wp2_with fail
          refine (isName_any _ _ hz1.1).mono ?_
          rintro e w1 ⟨rfl, rfl⟩
          go_wp2
          go_ret
          exact ⟨by rw [valid_bad HF.out hnm]; rfl, haf.alloc _⟩
      · obtain rfl : k = n := by omega
        go_wp2
        go_ret
        refine ⟨?_, haf⟩
        rw [valid_end (by rw [hlen.out]; exact hok) (by rw [hlen.out]; exact h8)]
        rfl
  · have hb : (8 : Int) < (n : Int) := by omega
    go_enter Tryd.func41, Tryd.ntmps41
    go_wp2
    go_ret
    exact ⟨by rw [valid_long (by rw [hlen.out]; exact h8)]; rfl, Aft.refl _⟩
end Go.Proofs.YtpkhoklahcgcoaaDoor

namespace Go.Proofs.YtpkhoklahcgcoaaDoor
open Go.RowKit
open FeatPlain

theorem valid_names {xs : List Ft} (h : (xs.take xs.length).all named = true) : validB xs = (decide (xs.length ≤ 8) && ascB xs) := by
  rw [List.take_length] at h
  simp [validB, h]

set_option maxRecDepth 100000 in
set_option maxHeartbeats 1600000 in
theorem refValid_any (A : Option Addr) (n c : Nat) (xs : List Ft) (w : World) (ha : Sl w A n c xs) (hz : Sized xs) :
    Calls Tryd.prog 22 #[.slice A n c] w (QuietPost w (validB xs)) := by
  have hn := ha.max
  have hnc := ha.le
  have hlen := Lib.hid ha.len
  go_enter Tryd.func22, Tryd.ntmps22
  go_wp2
  go_loop [3] (fun i => ∃ k : Nat, k ≤ n ∧ i = .int .i64 k ∧ (xs.take k).all named = true) (fun i => n - (intOf i).toNat)
  case atStart => exact ⟨0, Nat.zero_le _, rfl, by simp⟩
  case round =>
    obtain ⟨k, hk, rfl, hall⟩ := hrel
    have HA := Lib.hid hall
    clear hall
    by_cases hlt : k < n
    · obtain ⟨b, off, f, rfl, hf, h1, h2⟩ := ha.at_ hlt
      have hz1 := hz.get hf
      have HF := Lib.hid hf
      clear hf
      by_cases n1 : isName f.1 = true
      · by_cases n2 : isName f.2 = true
        · have hnm : named f = true := by simp [named, n1, n2]
          go_wp2_with fail
          refine (name_any _ _ hz1.1).mono ?_
          rintro e w1 ⟨rfl, rfl⟩
          go_wp2_with fail
          refine (name_any _ _ hz1.2).mono ?_
          rintro e w1 ⟨rfl, rfl⟩
          go_wp2
          go_round
          case rel => exact ⟨k + 1, by omega, by go_num, by rw [List.take_add_one, List.all_append, HA.out, HF.out]; simp [hnm]⟩
          case measure => simp [intOf]; omega
        · have hnm : named f = false := by simp [named, n2]
          have n2' : isName f.2 = false := by simpa using n2
          clear n2
          go_wp2_with fail
          refine (name_any _ _ hz1.1).mono ?_
          rintro e w1 ⟨rfl, rfl⟩
          go_wp2_with fail
          refine (name_any _ _ hz1.2).mono ?_
          rintro e w1 ⟨rfl, rfl⟩
          go_wp2
          go_ret
          exact ⟨by rw [valid_bad HF.out hnm]; rfl, 0, rfl⟩
      · have hnm : named f = false := by simp [named, n1]
        have n1' : isName f.1 = false := by simpa using n1
        clear n1
        go_wp2_with fail
        refine (name_any _ _ hz1.1).mono ?_
        rintro e w1 ⟨rfl, rfl⟩
        go_wp2
        go_ret
        exact ⟨by rw [valid_bad HF.out hnm]; rfl, 0, rfl⟩
    · obtain rfl : k = n := by omega
      by_cases h8 : k ≤ 8
      · have h8' : (k : Int) ≤ 8 := by omega
        go_wp2_with fail
        refine (record_any A k c xs w ha).mono ?_
        rintro e w1 ⟨rfl, q1, rfl⟩
        go_wp2
        go_ret
        refine ⟨?_, q1, rfl⟩
        rw [valid_names (by rw [hlen.out]; exact HA.out), hlen.out, decide_eq_true h8]
        rfl
      · have h8' : ¬ (k : Int) ≤ 8 := by omega
        go_wp2
        go_ret
        exact ⟨by rw [valid_long (by rw [hlen.out]; exact h8)]; rfl, 0, rfl⟩

end Go.Proofs.YtpkhoklahcgcoaaDoor

namespace Go.Proofs.YtpkhoklahcgcoaaDoor
open Go.RowKit
open FeatPlain

def blk (A : Option Addr) : Option Nat := A.map (·.block)

def SkipPost2 (w : World) (A : Option Addr) (l : List Ft) (e : Ending) (w' : World) : Prop := (∃ A' n' c', e = .returned (.slice A' n' c') ∧ Sl w A' n' c' l ∧ blk A' = blk A) ∧ w = w'

theorem blk_cut (b off c : Nat) : blk (if c = 1 then some ⟨b, off, none⟩ else some ⟨b, off + 2, none⟩) = blk (some ⟨b, off, none⟩) := by split <;> rfl

/-- What lies in blocks below base stays where only later rows have grown. -/
theorem Sl.grownOld {w w' : World} {A : Option Addr} {n c base : Nat} {fs : List Ft} {row : Option Nat} (h : Sl w A n c fs) (hg : w.grownBy w' row) (hr : ∀ g, row = some g → base ≤ g) (hb : ∀ b, blk A = some b → 0 < n → b < base) : Sl w' A n c fs :=
  ⟨h.len, h.le, h.max, h.cmax, h.nl, fun i f hi => by
    obtain ⟨b, off, hA, h1, h2⟩ := h.cells i f hi
    have hn : 0 < n := by have := (List.getElem?_eq_some_iff.1 hi).1; have := h.len; omega
    have hlt := hb b (by rw [hA]; rfl) hn
    have hbw : b < w.heap.size := World.block_lt_of_cell? w _ h1
    have hs := hg.block b hbw (fun e => by have := hr b e.symm; omega)
    exact ⟨b, off, hA, (World.cell?_of_block (w := w) hs).trans h1, (World.cell?_of_block (w := w) hs).trans h2⟩⟩

theorem Sl.old {w : World} {A : Option Addr} {n c : Nat} {fs : List Ft} (h : Sl w A n c fs) : ∀ b, blk A = some b → 0 < n → b < w.heap.size := by
  intro b hb hn
  obtain ⟨b', off', f, hA, _, h1, _⟩ := h.at_ hn
  rw [hA] at hb
  simp [blk] at hb
  subst hb
  exact World.block_lt_of_cell? w _ h1

/-- A slice that the call has built. -/
theorem Sl.of_row {w : World} {base n : Nat} {v : Value} {fs : List Ft} (h : w.ownsRow base 37 2 v n (flat fs)) (hl : fs.length = n) (hm : n * 32 ≤ 281474976710656) : ∃ A c, v = .slice A n c ∧ Sl w A n c fs := by
  rcases h.2 with ⟨rfl, rfl⟩ | ⟨g, cap, cur, rfl, _, _, hle, _, _⟩
  · have : fs = [] := List.length_eq_zero_iff.1 hl
    subst this
    exact ⟨none, 0, rfl, Sl.nil (by omega) (fun _ => rfl)⟩
  · exact ⟨_, _, rfl, Sl.of_own h hl hle hm⟩

def SlPost (w : World) (l : List Ft) (e : Ending) (w' : World) : Prop := (∃ A n c, e = .returned (.slice A n c) ∧ Sl w' A n c l) ∧ Aft w w'

theorem meet_step_nil {xs ys ys' out : List Ft} {k : Nat} {f : Ft} (h : meet xs ys = out ++ meet (xs.drop k) ys') (hf : xs[k]? = some f) (hs : skip f.1 ys' = []) : meet xs ys = out ++ meet (xs.drop (k + 1)) [] := by
  rw [h, drop_of_get hf, meet, hs]
theorem meet_step_eq {xs ys ys' out l : List Ft} {k : Nat} {f g : Ft} (h : meet xs ys = out ++ meet (xs.drop k) ys') (hf : xs[k]? = some f) (hs : skip f.1 ys' = g :: l) (e : g = f) : meet xs ys = (out ++ [f]) ++ meet (xs.drop (k + 1)) (g :: l) := by
  rw [h, drop_of_get hf, meet, hs]; simp [e]
theorem meet_step_ne {xs ys ys' out l : List Ft} {k : Nat} {f g : Ft} (h : meet xs ys = out ++ meet (xs.drop k) ys') (hf : xs[k]? = some f) (hs : skip f.1 ys' = g :: l) (e : ¬ g = f) : meet xs ys = out ++ meet (xs.drop (k + 1)) (g :: l) := by
  rw [h, drop_of_get hf, meet, hs]; simp [e]

theorem one_cells2 (w : World) (f : Ft) (H : Nat) (h : w.heap.size = H) : ∀ j u, (flat [f])[j]? = some u → (w.alloc (.cells #[.string f.1, .string f.2] 37)).cell? ((⟨H, 0, none⟩ : Addr).add j) = some u := by
  subst h
  exact one_cells w f

structure MRel (w : World) (xs ys : List Ft) (n : Nat) (v1 v5 i : Value) (wr : World) (k : Nat) (B : Option Addr) (m d : Nat) (ys' out : List Ft) : Prop where
  hk : k ≤ n
  ei : i = .int .i64 (k : Nat)
  e1 : v1 = .slice B m d
  hb : Sl wr B m d ys'
  ob : ∀ b, blk B = some b → 0 < m → b < w.heap.size
  own : wr.ownsRow w.heap.size 37 2 v5 out.length (flat out)
  le : out.length ≤ k
  eq : meet xs ys = out ++ meet (xs.drop k) ys'
  aft : Aft w wr

def MRelEx (w : World) (xs ys : List Ft) (n : Nat) (v1 v5 i : Value) (wr : World) : Prop := ∃ k B m d ys' out, MRel w xs ys n v1 v5 i wr k B m d ys' out

theorem row_lt {w wr : World} {v : Value} {n : Nat} {l : List Value} (h : wr.ownsRow w.heap.size 37 2 v n l) : ∀ g, v.ownBlock = some g → w.heap.size ≤ g := fun g hg => (h.lt g hg).1

end Go.Proofs.YtpkhoklahcgcoaaDoor

namespace Go.Proofs.YtpkhoklahcgcoaaDoor
open Go.RowKit
open FeatPlain

theorem filter_step {xs out : List Ft} {p : Ft → Bool} {k : Nat} {f : Ft} (h : xs.filter p = out ++ (xs.drop k).filter p) (hf : xs[k]? = some f) : xs.filter p = (out ++ if p f then [f] else []) ++ (xs.drop (k + 1)).filter p := by
  rw [h, drop_of_get hf, List.filter_cons]
  cases p f <;> simp

/-- A row of the call's own stays while only new memory is made. -/
theorem own_aft {wr w1 : World} {base : Nat} {e : TypeId} {size : Nat} {v : Value} {n : Nat} {l : List Value} (h : wr.ownsRow base e size v n l) (k : Aft wr w1) : w1.ownsRow base e size v n l := by
  refine ⟨h.1, ?_⟩
  rcases h.2 with h0 | ⟨g, cap, cur, hv, hb, hg, rest⟩
  · exact .inl h0
  · refine .inr ⟨g, cap, cur, hv, hb, ?_, rest⟩
    have hlt : g < wr.heap.size := by
      rcases Nat.lt_or_ge g wr.heap.size with h' | h'
      · exact h'
      · rw [Array.getElem?_eq_none h'] at hg; cases hg
    exact (Below.block k g hlt).trans hg

end Go.Proofs.YtpkhoklahcgcoaaDoor

namespace Go.Proofs.YtpkhoklahcgcoaaDoor
open Go.RowKit Go.Maps Go.WideMaps
open FeatPlain

/-- THE SLICE '.slice A n c' HOLDS THE STRINGS ss. -/
structure Ss (w : World) (A : Option Addr) (n c : Nat) (ss : List ByteArray) : Prop where
  len : ss.length = n
  le : n ≤ c
  max : n * 16 ≤ 281474976710656
  cmax : c ≤ 9223372036854775807
  nl : A = none → c = 0
  cells : ∀ i s, ss[i]? = some s → ∃ b off, A = some ⟨b, off, none⟩ ∧ w.cell? ⟨b, off + i, none⟩ = some (.string s)

theorem Ss.aft {w w' : World} {A : Option Addr} {n c : Nat} {ss : List ByteArray} (h : Ss w A n c ss) (k : Aft w w') : Ss w' A n c ss :=
  ⟨h.len, h.le, h.max, h.cmax, h.nl, fun i f hi => by
    obtain ⟨b, off, hA, h1⟩ := h.cells i f hi
    exact ⟨b, off, hA, k.cell h1⟩⟩

theorem Ss.at_ {w : World} {A : Option Addr} {n c k : Nat} {ss : List ByteArray} (h : Ss w A n c ss) (hk : k < n) :
    ∃ b off s, A = some ⟨b, off, none⟩ ∧ ss[k]? = some s ∧ w.cell? ⟨b, off + k, none⟩ = some (.string s) := by
  have hl : k < ss.length := by have := h.len; omega
  have hi : ss[k]? = some ss[k] := List.getElem?_eq_getElem hl
  obtain ⟨b, off, hA, h1⟩ := h.cells k _ hi
  exact ⟨b, off, _, hA, hi, h1⟩

theorem Ss.nil {w : World} {A : Option Addr} {c : Nat} (hm : c ≤ 9223372036854775807) (hn : A = none → c = 0) : Ss w A 0 c [] := ⟨rfl, Nat.zero_le _, by omega, hm, hn, fun i f h => by simp at h⟩

theorem lawK : Keyed Tryd.prog 9 := string_keyed Tryd.underlying9
theorem zeroB (w : World) : (zeroValue 4).run Tryd.prog w = .ok (.bool false) w := by kernel_rfl

theorem plainElem_bool_inv {H : Type} {P : Program} {e : TypeId} (he : P.underlying e = some .bool) {v : Value} {z : DataW H × List MemPlace} (h : plainElem P e v = some z) : ∃ x, v = .bool x ∧ z = (.lit (.bool x), []) := by
  unfold plainElem at h
  rw [he] at h
  cases v <;> simp at h
  exact ⟨_, rfl, h.symm⟩

theorem lookup_bool {H : Type} {P : Program} {k t e : TypeId} {w : World} {b n : Nat} {D : DataW H} (h : w.ownsMap P k (plainElem P e) b n D) (K : Keyed P k) (ht : P.underlying t = some (.map k e)) (he : P.underlying e = some .bool) (hz : (zeroValue e).run P w = .ok (.bool false) w)
    {key : Value} {kl : Lit} (hkey : keyOf P k key = some kl) : ∃ c, (Instr.lookup t (.map (some b)) key false).run P w = .ok (.bool c) w ∧ D.atKey kl (.lit (.bool false)) = .lit (.bool c) := by
  obtain ⟨v, ps, hrun, hv⟩ := h.lookup K ht hz (plainElem_bool he false) hkey
  obtain ⟨c, rfl, hc⟩ := plainElem_bool_inv he hv
  simp only [Prod.mk.injEq] at hc
  exact ⟨c, hrun, hc.1⟩

/-- Is the name among these? -/
def inB (ss : List ByteArray) (s : ByteArray) : Bool := ss.any fun t => decide (t = s)
theorem inB_cons (ss : List ByteArray) (s t : ByteArray) : inB (t :: ss) s = (decide (t = s) || inB ss s) := rfl
theorem inB_snoc (ss : List ByteArray) (s t : ByteArray) : inB (ss ++ [t]) s = (inB ss s || decide (t = s)) := by simp [inB]

/-- Block Bm is a set that holds the names ss. -/
structure SetIn (w : World) (Bm k : Nat) (D : DataW Unit) (ss : List ByteArray) : Prop where
  own : w.ownsMap Tryd.prog 9 (plainElem Tryd.prog 4) Bm k D
  mem : ∀ s : ByteArray, D.atKey (.string s.data.toList) (.lit (.bool false)) = .lit (.bool (inB ss s))

theorem SetIn.put {w w' : World} {Bm k : Nat} {D : DataW Unit} {ss : List ByteArray} (h : SetIn w Bm k D ss) (t : ByteArray) (own' : w'.ownsMap Tryd.prog 9 (plainElem Tryd.prog 4) Bm (k + 1) (D.put (.string t.data.toList) (.lit (.bool true)))) :
    SetIn w' Bm (k + 1) (D.put (.string t.data.toList) (.lit (.bool true))) (ss ++ [t]) := by
  refine ⟨own', fun s => ?_⟩
  by_cases e : s = t
  · subst e
    rw [atKey_put_same h.own.isMap (by simp [WideAt.IsKeyLit]), inB_snoc]
    simp
  · rw [atKey_put_other (fun k => e (WideShapes.bytes_inj (by simpa using k))), h.mem, inB_snoc]
    simp [Ne.symm e]

theorem SetIn.aft {w w' : World} {Bm k : Nat} {D : DataW Unit} {ss : List ByteArray} (h : SetIn w Bm k D ss) (a : Aft w w') : SetIn w' Bm k D ss := by
  refine ⟨?_, h.mem⟩
  have hlt := h.own.lt
  obtain ⟨es, clock, hb, r⟩ := h.own
  exact ⟨es, clock, (Below.block a Bm hlt).trans hb, r⟩

theorem take_next {α : Type} {l : List α} {k : Nat} {x : α} (h : l[k]? = some x) : l.take (k + 1) = l.take k ++ [x] := by
  rw [List.take_add_one, h]; rfl

end Go.Proofs.YtpkhoklahcgcoaaDoor

namespace Go.Proofs.YtpkhoklahcgcoaaDoor
open Go.ChangeShapes Go.WideShapes Go.ChangeAt Go.RowKit Go.Deep
open FeatPlain

theorem strs_of {H : Type} {enc : TypeId × Value → H} {W : World} {a : Option Addr} {len cap : Nat} {d : DataW H} {p : List MemPlace}
    (h : DataW.Trod enc Tryd.prog W 0 (fun _ => true) true 42 (.slice a len cap) d p) {R : Nat} (hR : R ≤ reachBytes) (hs : ∀ el sp, d = .slice el sp → (el.length + sp.length) * 16 ≤ R) :
    ∃ ss, Ss W a len cap ss ∧ (∀ s ∈ ss, s.size ≤ maxLen) ∧ cap * 16 ≤ R := by
  obtain ⟨fuel, hf⟩ := h
  rcases open_strs Tryd.underlying42 Tryd.underlying9 (by kernel_rfl) hf with ⟨hcs, hx⟩ | ⟨x, l, c, m, Sx, hcs, _, hl, hm, hmm, hx, hcell⟩
  · simp [Value.cells] at hcs
    obtain ⟨rfl, rfl, rfl⟩ := hcs
    exact ⟨[], Ss.nil (by omega) (fun _ => rfl), (fun f h => by cases h), by omega⟩
  · simp [Value.cells] at hcs
    obtain ⟨rfl, rfl, rfl⟩ := hcs
    simp only [if_true] at hmm
    obtain rfl : m = cap := hmm
    simp only [Prod.mk.injEq] at hx
    have hb := hs _ _ hx.1
    simp only [List.length_map, List.length_range] at hb
    have hcap : m * 16 ≤ R := by rwa [show len + (m - len) = m from by omega] at hb
    refine ⟨(List.range len).map Sx, ⟨by simp, hl, by unfold reachBytes at hR; omega, by unfold reachBytes at hR; omega, fun e => (by cases e), ?_⟩, ?_, hcap⟩
    · intro i f hi
      have hlt : i < len := by have := (List.getElem?_eq_some_iff.1 hi).1; simpa using this
      simp [hlt] at hi
      subst hi
      obtain ⟨c0, _⟩ := hcell i (by omega)
      obtain ⟨b, off, spot⟩ := x
      obtain ⟨k0, _⟩ := hcell 0 (by omega)
      have hspot : spot = none := by simpa [Addr.add] using World.cell?_spot k0
      subst hspot
      rw [Addr.add_lit] at c0
      exact ⟨b, off, rfl, c0⟩
    · intro f hf
      simp only [List.mem_map, List.mem_range] at hf
      obtain ⟨i, hi, rfl⟩ := hf
      exact (hcell i (by omega)).2
end Go.Proofs.YtpkhoklahcgcoaaDoor

namespace Go.Proofs.YtpkhoklahcgcoaaDoor
open Go.RowKit

/-- append onto a row of the call's own, from whatever slice. -/
theorem wpList_append_any {P : Program} {w : World} {ops : Array Oper} {rest : List Oper} {o : Oper} {a : Act} {Q : Exit → Act → World → Prop} (hgd : o.guard = none) (s x : Operand) (t : TypeId)
    (ho : o.op = .call { callee := .builtin .append, args := #[s, x], argTypes := #[t, t] })
    (base : Nat) (e : TypeId) (i : TypeInfo) (z : Value) (size bytes : Nat) (ht : P.underlying t = some (.slice e)) (hi : P.info? e = some i) (hz : i.zero = some z)
    (hsize : i.size = size) (hby : i.bytes = bytes) (hzs : z.cells.size = size) (hsz : 0 < size)
    (v : Value) (n : Nat) (xs : List Value) (hs : a.eval s = v) (hown : w.ownsRow base e size v n xs)
    (ao : Option Addr) (m c : Nat) (news : List Value) (hx : a.eval x = .slice ao m c) (hl : news.length = m * size) (hno : ao = none → m = 0 ∧ c = 0)
    (hnews : ∀ ad, ao = some ad → ∀ j u, news[j]? = some u → w.cell? (ad.add j) = some u) (h1 : ∀ u ∈ news, u.oneCell' = true)
    (h63 : n + m ≤ maxLen) (hbytes : (n + m) * bytes ≤ 140737488355328) (hbase : base ≤ w.heap.size)
    (h : ∀ v' w', w'.ownsRow base e size v' (n + m) (xs ++ news) → w.grownBy w' v.ownBlock → wpList P ops Q rest (a.put o.dst v') w') : wpList P ops Q (o :: rest) a w := by
  cases ao with
  | some ad => exact wpList_append_own w hgd s x t ho base e i z size bytes ht hi hz hsize hby hzs hsz v n xs hs hown ad m c news hx hl (hnews ad rfl) h1 h63 hbytes hbase fun v' w' a1 a2 _ => h v' w' a1 a2
  | none =>
    obtain ⟨rfl, rfl⟩ := hno rfl
    have hn : news = [] := List.length_eq_zero_iff.1 (by omega)
    subst hn
    exact wpList_append_own_none hgd s x t ho base e i size ht hi v n xs hs hown hx (h v w (by simpa using hown) (World.grownBy.refl _ _))

/-- From w to w' only blocks from B on, of the types ts, were changed; new ones may have come. -/
structure Chg (ts : List TypeId) (B : Nat) (w w' : World) : Prop where
  os : w'.os = w.os
  tape : w'.tape = w.tape
  output : w'.output = w.output
  size : w.heap.size ≤ w'.heap.size
  low : ∀ k, k < B → w'.heap[k]? = w.heap[k]?
  typ : ∀ (k : Nat) (cur : Array Value) (t : TypeId), t ∉ ts → w.heap[k]? = some (.cells cur t (0, 0)) → w'.heap[k]? = some (.cells cur t (0, 0))

theorem Chg.refl (ts : List TypeId) (B : Nat) (w : World) : Chg ts B w w := ⟨rfl, rfl, rfl, Nat.le_refl _, fun _ _ => rfl, fun _ _ _ _ h => h⟩
theorem Chg.trans {ts : List TypeId} {B : Nat} {a b c : World} (h : Chg ts B a b) (k : Chg ts B b c) : Chg ts B a c :=
  ⟨k.os.trans h.os, k.tape.trans h.tape, k.output.trans h.output, Nat.le_trans h.size k.size, fun i hi => (k.low i hi).trans (h.low i hi), fun i cur t ht hi => k.typ i cur t ht (h.typ i cur t ht hi)⟩
theorem Chg.mono {ts ts' : List TypeId} {B : Nat} {a b : World} (h : Chg ts B a b) (hs : ∀ t, t ∈ ts → t ∈ ts') : Chg ts' B a b :=
  ⟨h.os, h.tape, h.output, h.size, h.low, fun i cur t ht hi => h.typ i cur t (fun e => ht (hs t e)) hi⟩
theorem Chg.of_aft {ts : List TypeId} {B : Nat} {w w' : World} (h : Aft w w') (hB : B ≤ w.heap.size) : Chg ts B w w' :=
  ⟨h.os, h.tape, h.output, h.size, fun k hk => h.block k (Nat.lt_of_lt_of_le hk hB), fun k _ _ _ hk => (h.block k (Array.getElem?_eq_some_iff.1 hk).1).trans hk⟩
theorem Chg.of_grown {ts : List TypeId} {B : Nat} {w w' : World} {row : Option Nat} (h : w.grownBy w' row) (hB : B ≤ w.heap.size) (hr : ∀ r, row = some r → B ≤ r ∧ ∀ cur t, w.heap[r]? = some (.cells cur t (0, 0)) → t ∈ ts) : Chg ts B w w' :=
  ⟨h.os, h.tape, h.output, h.size, fun k hk => h.block k (by omega) (fun e => by have := (hr k e.symm).1; omega), fun k cur t ht hk => (h.block k (Array.getElem?_eq_some_iff.1 hk).1 (fun e => ht ((hr k e.symm).2 cur t hk))).trans hk⟩
theorem Chg.box {ts : List TypeId} {B : Nat} {w w' : World} (h : Chg ts B w w') {b : Nat} {t : TypeId} {v : Value} (hb : Boxed w b t v) (ht : t ∉ ts) : Boxed w' b t v := h.typ b _ t ht hb
theorem Chg.row {ts : List TypeId} {B : Nat} {w w' : World} (h : Chg ts B w w') {base : Nat} {e : TypeId} {size : Nat} {v : Value} {n : Nat} {xs : List Value} (hr : w.ownsRow base e size v n xs) (ht : e ∉ ts) : w'.ownsRow base e size v n xs := by
  refine ⟨hr.1, ?_⟩
  rcases hr.2 with k | ⟨g, cap, cur, e1, e2, e3, e4⟩
  · exact .inl k
  · exact .inr ⟨g, cap, cur, e1, e2, h.typ g cur e ht e3, e4⟩
theorem Chg.aft0 {ts : List TypeId} {B : Nat} {w0 w w' : World} (h : Chg ts B w w') (k : Aft w0 w) (hB : w0.heap.size ≤ B) : Aft w0 w' :=
  ⟨h.os.trans k.os, h.tape.trans k.tape, h.output.trans k.output, Nat.le_trans k.size h.size, fun i hi => (h.low i (Nat.lt_of_lt_of_le hi hB)).trans (k.block i hi)⟩
theorem row_type {w : World} {base : Nat} {e : TypeId} {size : Nat} {v : Value} {n : Nat} {xs : List Value} (hr : w.ownsRow base e size v n xs) : ∀ r, v.ownBlock = some r → base ≤ r ∧ ∀ cur t, w.heap[r]? = some (.cells cur t (0, 0)) → t = e := by
  intro r hv
  rcases hr.2 with ⟨rfl, _⟩ | ⟨g, cap, cur, rfl, hb, hg, _⟩
  · cases hv
  · cases hv
    refine ⟨hb, fun cur' t h => ?_⟩
    rw [hg] at h
    cases h
    rfl
theorem row_base {w : World} {base base' : Nat} {e : TypeId} {size : Nat} {v : Value} {n : Nat} {xs : List Value} (hr : w.ownsRow base e size v n xs) (hb : base' ≤ base) : w.ownsRow base' e size v n xs := by
  refine ⟨hr.1, ?_⟩
  rcases hr.2 with k | ⟨g, cap, cur, e1, e2, e3⟩
  · exact .inl k
  · exact .inr ⟨g, cap, cur, e1, Nat.le_trans hb e2, e3⟩
theorem Chg.set {B : Nat} {w : World} {b : Nat} {t : TypeId} {v : Value} (h : Boxed w b t v) (u : Value) (hB : B ≤ b) (hw : B ≤ w.heap.size) : Chg [t] B w (w.setCell ⟨b, 0, none⟩ u) :=
  Chg.of_grown (grownBy_setCell' w b u) hw (fun r e => by
    cases e
    refine ⟨hB, fun cur t' h' => ?_⟩
    rw [show w.heap[b]? = _ from h] at h'
    cases h'
    exact List.mem_singleton.2 rfl)

end Go.Proofs.YtpkhoklahcgcoaaDoor

namespace Go.Proofs.YtpkhoklahcgcoaaDoor
open Go.RowKit

/-- Where the row lies behind the append. -/
def At (w w' : World) (v v' : Value) (n m : Nat) : Prop :=
  (∃ g cap, v = .slice (some ⟨g, 0, none⟩) n cap ∧ v' = .slice (some ⟨g, 0, none⟩) (n + m) cap) ∨ (v'.ownBlock = some w.heap.size ∧ w.grownBy w' none)

theorem run_append_cap {P : Program} (w : World) (base : Nat) (t ty e : TypeId) (i : TypeInfo) (z : Value) (size bytes : Nat) (ht : P.underlying t = some (.slice e)) (hi : P.info? e = some i) (hz : i.zero = some z)
    (hsize : i.size = size) (hby : i.bytes = bytes) (hzs : z.cells.size = size) (hsz : 0 < size) (v : Value) (n : Nat) (xs : List Value) (hown : w.ownsRow base e size v n xs)
    (a : Addr) (m c : Nat) (news : List Value) (hl : news.length = m * size) (hnews : ∀ j u, news[j]? = some u → w.cell? (a.add j) = some u) (h1 : ∀ u ∈ news, u.oneCell' = true) (hm : 0 < m)
    (h63 : n + m ≤ maxLen) (hbytes : (n + m) * bytes ≤ 140737488355328) (hbase : base ≤ w.heap.size) :
    ∃ v' w', (Builtin.append_ #[t, t] ty #[v, .slice (some a) m c]).run P w = .ok v' w' ∧ w'.ownsRow base e size v' (n + m) (xs ++ news) ∧ w.grownBy w' v.ownBlock ∧ At w w' v v' n m := by
  obtain ⟨v', w', hr, h2, h3, _, h5⟩ := run_append_own_at (P := P) w base t ty e i z size bytes ht hi hz hsize hby hzs hsz v n xs hown a m c news hl hnews h1 h63 hbytes hbase
  refine ⟨v', w', hr, h2, h3, ?_⟩
  subst hsize
  subst hby
  have hown' := hown
  rcases hown.2 with ⟨rfl, rfl⟩ | ⟨g, cap, cur, rfl, hbg, hg, hnc, hcm, hcs, htake⟩
  · refine .inr ⟨?_, h3⟩
    rcases h5 with h5 | h5
    · rcases h2.2 with ⟨_, h0⟩ | ⟨g', _, _, rfl, _⟩
      · omega
      · cases h5
    · exact h5
  · by_cases hroom : n + m ≤ cap
    · have hfit : n * i.size + news.length ≤ cur.size := by rw [hl, hcs, ← Nat.add_mul]; exact Nat.mul_le_mul_right _ hroom
      rw [run_append_room (P := P) w t ty e i ht hi g n cap cur hg a m c news hl hnews h1 hroom hfit] at hr
      cases hr
      exact .inl ⟨g, cap, rfl, rfl⟩
    · have hgr := growslice_fits (need := n + m) (old := cap) (bytes := i.bytes) (by omega) hbytes
      rw [run_append_grow (P := P) w t ty e i z ht hi hz ⟨g, 0, none⟩ n cap xs hown'.1 (hown'.cells rfl) a m c news hl hnews (by omega) (by unfold maxLen at h63; omega) hgr] at hr
      cases hr
      exact .inr ⟨rfl, ⟨rfl, rfl, rfl, by simp, fun k hk _ => heap_alloc_old w.drew _ hk⟩⟩

theorem wpListIn_append_cap {F : Fence} {nF : Nat} {P : Program} {w : World} {ops : Array Oper} {rest : List Oper} {o : Oper} {a : Act} {Q : Exit → Act → World → Prop} (hgd : o.guard = none) (s x : Operand) (t : TypeId)
    (ho : o.op = .call { callee := .builtin .append, args := #[s, x], argTypes := #[t, t] })
    (base : Nat) (e : TypeId) (i : TypeInfo) (z : Value) (size bytes : Nat) (ht : P.underlying t = some (.slice e)) (hi : P.info? e = some i) (hz : i.zero = some z)
    (hsize : i.size = size) (hby : i.bytes = bytes) (hzs : z.cells.size = size) (hsz : 0 < size)
    (v : Value) (n : Nat) (xs : List Value) (hs : a.eval s = v) (hown : w.ownsRow base e size v n xs)
    (ad : Addr) (m c : Nat) (news : List Value) (hx : a.eval x = .slice (some ad) m c) (hl : news.length = m * size) (hnews : ∀ j u, news[j]? = some u → w.cell? (ad.add j) = some u) (h1 : ∀ u ∈ news, u.oneCell' = true) (hm : 0 < m)
    (h63 : n + m ≤ maxLen) (hbytes : (n + m) * bytes ≤ 140737488355328) (hbase : base ≤ w.heap.size)
    (h : ∀ v' w', w'.ownsRow base e size v' (n + m) (xs ++ news) → w.grownBy w' v.ownBlock → At w w' v v' n m → wpListIn F nF P ops Q rest (a.put o.dst v') w') :
    wpListIn F nF P ops Q (o :: rest) a w := by
  refine wpListIn_plain hgd fun K hK => ?_
  obtain ⟨v', w', hr, h2, h3, h4⟩ := run_append_cap (P := P) w base t o.type e i z size bytes ht hi hz hsize hby hzs hsz v n xs hown ad m c news hl hnews h1 hm h63 hbytes hbase
  unfold Oper.wpIn
  refine ⟨by simp [Oper.about, ho, resolve, Target.leads, Sem.run_pure], ?_⟩
  rw [Oper.semAt_plain F _ _ (by rw [ho]; intro c hc'; cases hc')]
  simp [execOp, ho, resolve, invoke, builtin, hs, hx, hr, Result.andThen]
  exact hK _ _ (h v' w' h2 h3 h4)

/-- A row that owns its first n + m elements owns its first n, in the same block with the same capacity. -/
theorem row_first {w : World} {base : Nat} {e : TypeId} {size g n m cap : Nat} {xs news : List Value} (h : w.ownsRow base e size (.slice (some ⟨g, 0, none⟩) (n + m) cap) (n + m) (xs ++ news)) (hl : xs.length = n * size) :
    w.ownsRow base e size (.slice (some ⟨g, 0, none⟩) n cap) n xs := by
  refine ⟨hl, ?_⟩
  rcases h.2 with ⟨e1, _⟩ | ⟨g', cap', cur, e1, e2, e3, e4, e5, e6, e7⟩
  · cases e1
  · cases e1
    refine .inr ⟨g, cap, cur, rfl, e2, e3, by omega, e5, e6, ?_⟩
    have h1 : cur.toList.take (n * size) = (cur.toList.take ((n + m) * size)).take (n * size) := by
      rw [List.take_take, Nat.min_eq_left (Nat.mul_le_mul_right _ (by omega))]
    rw [h1, e7, ← hl]
    exact List.take_left
end Go.Proofs.YtpkhoklahcgcoaaDoor

namespace Go.Proofs.YtpkhoklahcgcoaaDoor
open Go

section
variable {P : Program} {ops : Array Oper} {Q : Exit → Act → World → Prop} {md : Region.Mode} {S : World → Prop}

theorem at_list {i : Nat} {oi : Oper} (hi : ops.toList[i]? = some oi) : ops[i]? = some oi := by
  rw [← Array.getElem?_toList]; exact hi

theorem take_on {i : Nat} {oi : Oper} {v : Value} {fuel : Nat} {listed : Array Bool} {a : Act} {w : World} (hi : ops.toList[i]? = some oi)
    (hs : Region.noSelect ops = true) (hf : Region.free md ops listed i = true) (hr : (Region.ready md ops listed).contains i = true)
    (hQ : ∀ c a w, Q (.panic c) (a.put oi.dst v) w → Q (.panic c) a w) (hw : Region.wanted oi (yielded ops a.tmps) = true) (hS : S w)
    (hy : ∀ w, S w → (execOp a.eval oi).run P w = .ok (.value v) w)
    (h : wpAnyH P md ops Q S fuel (listed.setIfInBounds i true) (a.put oi.dst v) w) : wpAnyH P md ops Q S (fuel + 1) listed a w :=
  wpAnyH_take (at_list hi) hs hf hr hQ (Or.inl ⟨hw, hy⟩) hS h

theorem take_off {i : Nat} {oi : Oper} {fuel : Nat} {listed : Array Bool} {a : Act} {w : World} (hi : ops.toList[i]? = some oi)
    (hs : Region.noSelect ops = true) (hf : Region.free md ops listed i = true) (hr : (Region.ready md ops listed).contains i = true)
    (hQ : ∀ c a w, Q (.panic c) (a.put oi.dst undef) w → Q (.panic c) a w) (hw : Region.wanted oi (yielded ops a.tmps) = false) (hS : S w)
    (h : wpAnyH P md ops Q S fuel (listed.setIfInBounds i true) (a.put oi.dst undef) w) : wpAnyH P md ops Q S (fuel + 1) listed a w :=
  wpAnyH_take (at_list hi) hs hf hr hQ (Or.inr ⟨hw, rfl⟩) hS h

theorem one_ready {i : Nat} {oi : Oper} {fuel : Nat} {listed : Array Bool} {a : Act} {w : World} (hi : ops.toList[i]? = some oi) (hr : Region.ready md ops listed = [i])
    (hw : Region.wanted oi (yielded ops a.tmps) = true)
    (h : ∀ K' : Act → World → Prop, Shut (∀ a w, S w → (S w → wpAnyH P md ops Q S fuel (listed.setIfInBounds i true) a w) → K' a w) → Oper.wp P oi a w K' Q) : wpAnyH P md ops Q S (fuel + 1) listed a w :=
  wpAnyH_ready hr (by simp) (AllReadyH.cons (at_list hi) (fun K hK => by rw [if_pos hw]; exact h K hK) AllReadyH.nil)
end
end Go.Proofs.YtpkhoklahcgcoaaDoor

namespace Go.Proofs.YtpkhoklahcgcoaaDoor.bulks

theorem one_le {H : Type} (d : DataW H) : 1 ≤ Rows.uptoBulk d := by
  cases d with
  | lit l => cases l <;> simp [Rows.uptoBulk]
  | _ => simp [Rows.uptoBulk]

theorem part_le {H : Type} {d : DataW H} : ∀ {l : List (DataW H)}, d ∈ l → Rows.uptoBulk d ≤ Rows.uptoBulkAll l
  | x :: r, h => by
    simp only [Rows.uptoBulkAll]
    rcases List.mem_cons.1 h with rfl | h
    · omega
    · have := part_le h; omega

theorem length_le {H : Type} : ∀ l : List (DataW H), l.length ≤ Rows.uptoBulkAll l
  | [] => by simp [Rows.uptoBulkAll]
  | x :: r => by have := one_le x; have := length_le r; simp only [Rows.uptoBulkAll, List.length_cons]; omega

theorem slice_le {H : Type} (el sp : List (DataW H)) : el.length + sp.length + 1 ≤ Rows.uptoBulk (.slice el sp) := by
  have := length_le el
  have := length_le sp
  simp only [Rows.uptoBulk]
  omega

theorem bound {H : Type} {l : List (DataW H)} (hk : Rows.uptoSmall H l = true) : Rows.uptoBulkAll l ≤ 1048576 := of_decide_eq_true hk
end Go.Proofs.YtpkhoklahcgcoaaDoor.bulks

namespace Go.Proofs.YtpkhoklahcgcoaaDoor
open Go.RowKit
open FeatPlain

/-- The index of the first feature with a name. -/
def idx : List Ft → ByteArray → Option Nat
  | [], _ => none
  | f :: l, nm => if f.1 = nm then some 0 else (idx l nm).map (· + 1)

def NoTo (xs : List Ft) (nm : ByteArray) (k : Nat) : Prop := ∀ j f, j < k → xs[j]? = some f → f.1 ≠ nm

theorem noTo_succ {xs : List Ft} {nm : ByteArray} {k : Nat} {f : Ft} (h : NoTo xs nm k) (hf : xs[k]? = some f) (hn : f.1 ≠ nm) : NoTo xs nm (k + 1) := by
  intro j g hj hg
  by_cases e : j = k
  · subst e; rw [hf] at hg; cases hg; exact hn
  · exact h j g (by omega) hg

theorem idx_found : ∀ {xs : List Ft} {nm : ByteArray} {k : Nat} {f : Ft}, NoTo xs nm k → xs[k]? = some f → f.1 = nm → idx xs nm = some k
  | [], _, _, _, _, hf, _ => by simp at hf
  | x :: xs, nm, 0, f, _, hf, hn => by simp at hf; subst hf; simp [idx, hn]
  | x :: xs, nm, k + 1, f, h, hf, hn => by
    have hx : ¬ x.1 = nm := h 0 x (by omega) rfl
    rw [idx, if_neg hx, idx_found (k := k) (fun j g hj hg => h (j + 1) g (by omega) (by simpa using hg)) (by simpa using hf) hn]
    rfl

theorem idx_none : ∀ {xs : List Ft} {nm : ByteArray}, NoTo xs nm xs.length → idx xs nm = none
  | [], _, _ => rfl
  | x :: xs, nm, h => by
    have hx : ¬ x.1 = nm := h 0 x (by simp) rfl
    rw [idx, if_neg hx, idx_none (fun j g hj hg => h (j + 1) g (by simp only [List.length_cons]; omega) (by simpa using hg))]
    rfl

theorem idx_some : ∀ {xs : List Ft} {nm : ByteArray} {k : Nat}, idx xs nm = some k → ∃ f, xs[k]? = some f ∧ f.1 = nm
  | x :: xs, nm, k, h => by
    rw [idx] at h
    split at h
    · cases h; exact ⟨x, rfl, by assumption⟩
    · obtain ⟨j, hj, rfl⟩ := Option.map_eq_some_iff.1 h
      obtain ⟨f, hf, hn⟩ := idx_some hj
      exact ⟨f, by simpa using hf, hn⟩

theorem idx_no : ∀ {xs : List Ft} {nm : ByteArray}, idx xs nm = none → ∀ f ∈ xs, f.1 ≠ nm
  | x :: xs, nm, h, f, hf => by
    rw [idx] at h
    split at h
    · cases h
    · rcases List.mem_cons.1 hf with rfl | hf
      · assumption
      · exact idx_no (Option.map_eq_none_iff.1 h) f hf

/-- In a list with strictly ascending names a feature is found where its name is. -/
def hasB (xs : List Ft) (f : Ft) : Bool := match idx xs f.1 with
  | none => false
  | some k => match xs[k]? with
    | none => false
    | some g => decide (g.2 = f.2)

theorem hasB_none {xs : List Ft} {f : Ft} (h : idx xs f.1 = none) : hasB xs f = false := by simp [hasB, h]
theorem hasB_some {xs : List Ft} {f g : Ft} {k : Nat} (h : idx xs f.1 = some k) (hg : xs[k]? = some g) : hasB xs f = decide (g.2 = f.2) := by simp [hasB, h, hg]

theorem hasB_iff {xs : List Ft} (ha : Asc xs) (f : Ft) : hasB xs f = true ↔ f ∈ xs := by
  cases h : idx xs f.1 with
  | none =>
    rw [hasB_none h]
    simp only [Bool.false_eq_true, false_iff]
    exact fun hf => idx_no h f hf rfl
  | some k =>
    obtain ⟨g, hg, hn⟩ := idx_some h
    rw [hasB_some h hg, decide_eq_true_eq]
    constructor
    · intro e
      have : g = f := Prod.ext hn e
      subst this
      exact List.mem_of_getElem? hg
    · intro hf
      rw [asc_eq ha (List.mem_of_getElem? hg) hf hn]

def IdxPost (w : World) (o : Option Nat) (e : Ending) (w' : World) : Prop := w = w' ∧ match o with
  | none => e = .returned (.int .i64 (-1))
  | some k => e = .returned (.int .i64 (k : Int))

end Go.Proofs.YtpkhoklahcgcoaaDoor

namespace Go.Proofs.YtpkhoklahcgcoaaDoor
open Go.RowKit

/-- The builder at block b holds the bytes bs; blocks from B on are the call's own. -/
abbrev Bld (B b : Nat) (bs : List Value) (w : World) : Prop := Lib.IsBuilderF 66 5 B b bs w
/-- What a writing method leaves. -/
def BPost (B b : Nat) (bs : List Value) (v : Value) (w : World) (e : Ending) (w' : World) : Prop :=
  e = .returned v ∧ Lib.BuilderAtF 66 5 B b (.pointer (some ⟨b, 0, none⟩)) bs w' ∧ Below B w w' ∧ Lib.OthersKept 5 (some b) w w'

theorem Tryd.infoBld : (Tryd.prog.info? 66).map (fun i => i.size) = some 2 := by kernel_rfl
theorem Tryd.infoByte : (Tryd.prog.info? 5).map (fun i => (i.zero, i.size, i.bytes)) = some (some (.int .u8 0), 1, 1) := by kernel_rfl

theorem bld_lt {w : World} {b : Nat} {o : Obj} (h : w.heap[b]? = some o) : b < w.heap.size := by
  rcases Nat.lt_or_ge b w.heap.size with h' | h'
  · exact h'
  · rw [Array.getElem?_eq_none h'] at h; cases h

set_option maxHeartbeats 1000000 in
set_option maxRecDepth 100000 in
theorem check_used (b : Nat) (w : World) (h0 : w.cell? ⟨b, 0, none⟩ = some (.pointer (some ⟨b, 0, none⟩))) :
    Calls Tryd.prog 58 #[.pointer (some ⟨b, 0, none⟩)] w fun e w' => e = .returned (.tuple #[]) ∧ w' = w := by
  obtain ⟨j, hj, _⟩ := Option.map_eq_some_iff.1 Tryd.infoBld
  go_enter Tryd.func58, Tryd.ntmps58
  go_wp2
  rw [Lib.run_neq_ptr_same w _ Tryd.underlying63 hj]
  go_wp2
  go_end0
  exact ⟨rfl, rfl⟩

set_option maxHeartbeats 1000000 in
set_option maxRecDepth 100000 in
theorem check_fresh (b : Nat) (w : World) (h0 : w.cell? ⟨b, 0, none⟩ = some (.pointer none)) (hsh : w.shape? b = some (66, 2)) (hfz : w.frozen? ⟨b, 0, none⟩ = false) :
    Calls Tryd.prog 58 #[.pointer (some ⟨b, 0, none⟩)] w fun e w' => e = .returned (.tuple #[]) ∧ w' = w.setCell ⟨b, 0, none⟩ (.pointer (some ⟨b, 0, none⟩)) := by
  obtain ⟨j, hj, hjs⟩ := Option.map_eq_some_iff.1 Tryd.infoBld
  go_enter Tryd.func58, Tryd.ntmps58
  go_wp2
  rw [Lib.run_to_unsafe w ⟨b, 0, none⟩ Tryd.underlying63 Tryd.underlying109 hj (by rw [hjs]; decide) hsh (Nat.zero_lt_succ 1)]
  simp only [Result.andThen]
  rw [Oper.upon_value]
  go_wp2
  rw [run_callFunc_extern Tryd.func81 (by kernel_rfl) (by kernel_rfl) (by kernel_rfl) (e := Extern.AbiNoEscape.same) (by kernel_rfl), Lib.run_noEscape]
  simp only [Result.andThen]
  rw [Oper.upon_value]
  go_wp2
  rw [Lib.run_from_unsafe w ⟨b, 0, none⟩ Tryd.underlying109 Tryd.underlying63 hj hsh (by kernel_rfl)]
  simp only [Result.andThen]
  rw [Oper.upon_value]
  go_wp2
  go_end0
  exact ⟨rfl, rfl⟩

theorem check_any (B b : Nat) (bs : List Value) (w : World) (h : Bld B b bs w) :
    Calls Tryd.prog 58 #[.pointer (some ⟨b, 0, none⟩)] w (BPost B b bs (.tuple #[]) w) := by
  rcases h with h | h
  · refine (check_fresh b w h.cell0 h.shape h.frozen0).mono ?_
    rintro e w' ⟨rfl, rfl⟩
    exact ⟨rfl, h.used _, (Below.refl B w).setCell (p := ⟨b, 0, none⟩) h.1 _, (Lib.OthersKept.refl _ _ w).setCell ⟨b, 0, none⟩ rfl _⟩
  · refine (check_used b w h.cell0).mono ?_
    rintro e w' ⟨rfl, rfl⟩
    exact ⟨rfl, h, Below.refl B _, Lib.OthersKept.refl _ _ _⟩

set_option maxHeartbeats 2000000 in
set_option maxRecDepth 100000 in
theorem writeByte_any (B b : Nat) (bs : List Value) (c : Int) (w : World) (h : Bld B b bs w) (hlen : bs.length + 1 ≤ 140737488355328) (hBw : B ≤ w.heap.size) :
    Calls Tryd.prog 42 #[.pointer (some ⟨b, 0, none⟩), .int .u8 c] w (BPost B b (bs ++ [.int .u8 c]) .nilIface w) := by
  obtain ⟨i0, hi, hz0, hz1, hz2⟩ := info_parts Tryd.infoByte
  go_enter Tryd.func42, Tryd.ntmps42
  go_wp2_with fail
  refine (check_any B b bs _ h).mono ?_
  rintro e w1 ⟨rfl, ⟨hB, v, hbk, hown, hne⟩, hb1, hk1⟩
  have c0 : w1.cell? ⟨b, 0, none⟩ = some (.pointer (some ⟨b, 0, none⟩)) := by rw [Lib.cell_of_heap hbk]; rfl
  have c1 : w1.cell? ⟨b, 1, none⟩ = some v := by rw [Lib.cell_of_heap hbk]; rfl
  have hlt := bld_lt hbk
  go_wp2_with (at_builtin; refine wpList_append_ownF _ rfl _ _ 64 rfl B 5 i0 (.int .u8 0) 1 1 Tryd.underlying64 hi hz0 hz1 hz2 rfl (by decide) _ _ _ rfl (hown.alloc _) ⟨w1.heap.size, 0, none⟩ 1 1 [.int .u8 c] rfl rfl (cell_one_new _ _ _) (by intro u hu; simp at hu; subst hu; rfl) (by unfold maxLen; omega) (by omega) (by have := hb1.size; simp; omega) ?_)
  intro v' w2 hown' hgrow _
  have hb2 : w2.heap[b]? = some (.cells #[.pointer (some ⟨b, 0, none⟩), v] 66 (0, 0)) := by
    rw [hgrow.block b (by simp; omega) (fun e => hne e.symm), Lib.alloc_old w1 _ b hlt]
    exact hbk
  have d0 : w2.cell? ⟨b, 0, none⟩ = some (.pointer (some ⟨b, 0, none⟩)) := by rw [Lib.cell_of_heap hb2]; rfl
  have d1 : w2.cell? ⟨b, 1, none⟩ = some v := by rw [Lib.cell_of_heap hb2]; rfl
  have f1 : w2.frozen? ⟨b, 1, none⟩ = false := Lib.frozen_of_heap hb2 1
  obtain ⟨g, cap, rfl⟩ : ∃ g cap, v' = .slice (some ⟨g, 0, none⟩) (bs.length + 1) cap := by
    rcases hown'.2 with ⟨_, h0⟩ | ⟨g, cap, cur, fz, hv, _⟩
    · omega
    · exact ⟨g, cap, hv⟩
  go_wp2
  go_ret
  refine ⟨rfl, ?_, ?_, ((hk1.alloc _).grown hgrow (Lib.ownsRowF_kind (hown.alloc _))).setCell ⟨b, 1, none⟩ rfl _⟩
  · exact Lib.BuilderAtF.put (T := 66) (e := 5) hB hb2 (bs' := bs ++ [.int .u8 c]) (by simpa using hown') (by decide)
  · exact ((hb1.alloc (by have := hb1.size; omega) _).grown hgrow (by have := hb1.size; simp; omega) (fun k hk => (hown.lt k hk).1)).setCell (p := ⟨b, 1, none⟩) hB _

set_option maxHeartbeats 2000000 in
set_option maxRecDepth 100000 in
theorem writeString_any (B b : Nat) (bs : List Value) (s : ByteArray) (w : World) (h : Bld B b bs w) (hlen : bs.length + s.size ≤ 140737488355328) (hBw : B ≤ w.heap.size) :
    Calls Tryd.prog 43 #[.pointer (some ⟨b, 0, none⟩), .string s] w (BPost B b (bs ++ Lib.strCells s) (.tuple #[.int .i64 s.size, .nilIface]) w) := by
  obtain ⟨i0, hi, hz0, hz1, hz2⟩ := info_parts Tryd.infoByte
  go_enter Tryd.func43, Tryd.ntmps43
  go_wp2_with fail
  refine (check_any B b bs _ h).mono ?_
  rintro e w1 ⟨rfl, ⟨hB, v, hbk, hown, hne⟩, hb1, hk1⟩
  have c0 : w1.cell? ⟨b, 0, none⟩ = some (.pointer (some ⟨b, 0, none⟩)) := by rw [Lib.cell_of_heap hbk]; rfl
  have c1 : w1.cell? ⟨b, 1, none⟩ = some v := by rw [Lib.cell_of_heap hbk]; rfl
  have hlt := bld_lt hbk
  go_wp2_with (at_builtin; refine Lib.wpList_append_own_stringF _ rfl _ _ 64 9 rfl B 5 i0 Tryd.underlying64 Tryd.underlying9 hi hz0 hz1 hz2 _ _ _ rfl hown s rfl (by unfold maxLen; omega) (by omega) (by have := hb1.size; omega) ?_)
  intro v' w2 hown' hgrow _
  have hb2 : w2.heap[b]? = some (.cells #[.pointer (some ⟨b, 0, none⟩), v] 66 (0, 0)) := by
    rw [hgrow.block b hlt (fun e => hne e.symm)]
    exact hbk
  have d0 : w2.cell? ⟨b, 0, none⟩ = some (.pointer (some ⟨b, 0, none⟩)) := by rw [Lib.cell_of_heap hb2]; rfl
  have d1 : w2.cell? ⟨b, 1, none⟩ = some v := by rw [Lib.cell_of_heap hb2]; rfl
  have f1 : w2.frozen? ⟨b, 1, none⟩ = false := Lib.frozen_of_heap hb2 1
  have hfin : ∀ V, v' = V → Lib.BuilderAtF 66 5 B b (.pointer (some ⟨b, 0, none⟩)) (bs ++ Lib.strCells s) (w2.setCell ⟨b, 1, none⟩ V) := by
    rintro V rfl
    exact Lib.BuilderAtF.put (T := 66) (e := 5) hB hb2 (bs' := bs ++ Lib.strCells s) (by rw [List.length_append, Lib.strCells_length]; exact hown') (by decide)
  obtain ⟨A, n, cap, rfl⟩ : ∃ A n cap, v' = .slice A n cap := by
    rcases hown'.2 with ⟨hv, _⟩ | ⟨g, cap, cur, fz, hv, _⟩
    · exact ⟨_, _, _, hv⟩
    · exact ⟨_, _, _, hv⟩
  go_wp2
  go_ret2
  refine ⟨rfl, hfin _ rfl, ?_, (hk1.grown hgrow (Lib.ownsRowF_kind hown)).setCell ⟨b, 1, none⟩ rfl _⟩
  exact (hb1.grown hgrow (by have := hb1.size; omega) (fun k hk => (hown.lt k hk).1)).setCell (p := ⟨b, 1, none⟩) hB _
end Go.Proofs.YtpkhoklahcgcoaaDoor

namespace Go.Proofs.YtpkhoklahcgcoaaDoor
open Go.RowKit
open FeatPlain

/-- One feature's bytes. -/
def one (f : Ft) : List UInt8 := f.1.data.toList ++ [61] ++ f.2.data.toList
/-- The bytes of the text. -/
def text : List Ft → List UInt8
  | [] => []
  | [f] => one f
  | f :: g :: l => one f ++ [32] ++ text (g :: l)

/-- The text of the first k features, as the loop writes it. -/
def textTo : List Ft → List UInt8 → Bool → List UInt8
  | [], acc, _ => acc
  | f :: l, acc, first => textTo l (acc ++ (if first then [] else [32]) ++ one f) false

theorem textTo_text : ∀ (l : List Ft) (acc : List UInt8), textTo l acc false = acc ++ (if l = [] then [] else [32] ++ text l)
  | [], acc => by simp [textTo]
  | [f], acc => by simp [textTo, text]
  | f :: g :: l, acc => by
    rw [textTo, textTo_text (g :: l)]
    simp [text]

theorem textTo_all (l : List Ft) : textTo l [] true = text l := by
  cases l with
  | nil => rfl
  | cons f l =>
    rw [textTo, textTo_text]
    cases l <;> simp [text]

theorem textTo_length : ∀ (l : List Ft) (acc : List UInt8) (b : Bool), acc.length ≤ (textTo l acc b).length
  | [], acc, b => Nat.le_refl _
  | f :: l, acc, b => by
    rw [textTo]
    refine Nat.le_trans ?_ (textTo_length l _ false)
    simp only [List.length_append]; omega

def StrPost (w : World) (l : List UInt8) (e : Ending) (w' : World) : Prop := e = .returned (.string ⟨l.toArray⟩) ∧ Aft w w'

/-- A box of the call's own stays while a builder is written. -/
theorem box_kept {w w' : World} {b X : Nat} {cs : Array Value} (hk : Lib.OthersKept 5 (some b) w w') (hX : w.heap[X]? = some (.cells cs 37 (0, 0))) (hne : X ≠ b) : w'.heap[X]? = some (.cells cs 37 (0, 0)) :=
  hk X _ hX (by simp [hne]) (by intro c fz e; injection e with _ e2; exact absurd e2 (by decide))

theorem step_length {xs : List Ft} {k : Nat} {acc : List UInt8} {b : Bool} {f : Ft} (hz : (text xs).length ≤ 140737488355328) (h : textTo xs [] true = textTo (xs.drop k) acc b) (hf : xs[k]? = some f) :
    acc.length + (if b then 0 else 1) + f.1.size + 1 + f.2.size ≤ 140737488355328 := by
  rw [← textTo_all, h, drop_of_get hf, textTo] at hz
  have := Nat.le_trans (textTo_length _ _ _) hz
  cases b <;> simp [one] at this ⊢ <;> omega

theorem step_text {xs : List Ft} {k : Nat} {acc : List UInt8} {b : Bool} {f : Ft} (h : textTo xs [] true = textTo (xs.drop k) acc b) (hf : xs[k]? = some f) :
    textTo xs [] true = textTo (xs.drop (k + 1)) (acc ++ (if b then [] else [32]) ++ one f) (decide (k + 1 = 0)) := by
  rw [h, drop_of_get hf, textTo]; simp

theorem cells_first (acc : List UInt8) (f : Ft) : ((Lib.byteCells acc ++ Lib.strCells f.1) ++ [.int .u8 61]) ++ Lib.strCells f.2 = Lib.byteCells (acc ++ [] ++ one f) := by
  simp [Lib.strCells_eq, one, Lib.byteCells]
theorem cells_later (acc : List UInt8) (f : Ft) : (((Lib.byteCells acc ++ [.int .u8 32]) ++ Lib.strCells f.1) ++ [.int .u8 61]) ++ Lib.strCells f.2 = Lib.byteCells (acc ++ [32] ++ one f) := by
  simp [Lib.strCells_eq, one, Lib.byteCells]

set_option maxRecDepth 100000 in
set_option maxHeartbeats 1600000 in
theorem text_any (A : Option Addr) (n c : Nat) (xs : List Ft) (w : World) (ha : Sl w A n c xs) (hz : (text xs).length ≤ 140737488355328) :
    Calls Tryd.prog 19 #[.slice A n c] w (StrPost w (text xs)) := by
  have hn := ha.max
  have hnc := ha.le
  have hlen := Lib.hid ha.len
  have HZ := Lib.hid hz
  clear hz
  go_enter Tryd.func19, Tryd.ntmps19
  go_wp2
  have hB0 := Lib.IsBuilderF.of (Lib.fresh_isBuilder 66 5 w)
  go_loopw [8] (fun i wr => ∃ k acc, k ≤ n ∧ i = .int .i64 (k : Nat) ∧ textTo xs [] true = textTo (xs.drop k) acc (decide (k = 0)) ∧ Bld w.heap.size w.heap.size (Lib.byteCells acc) wr ∧ Aft w wr) (fun i _ => n - (intOf i).toNat)
  case atStart => exact ⟨0, [], Nat.zero_le _, rfl, by simp, hB0, (Aft.refl _).alloc _⟩
  case round =>
    obtain ⟨k, acc, hk, rfl, htx, hbl, haf⟩ := hrel
    have HT := Lib.hid htx
    clear htx hB0
    by_cases hlt : k < n
    · obtain ⟨b, off, f, rfl, hf, h1, h2⟩ := ha.at_ hlt
      have c1 := haf.cell h1
      have c2 := haf.cell h2
      have HF := Lib.hid hf
      clear hf h1 h2
      have hbl1 := fun o => hbl.alloc o
      have hbox : (wr.alloc (.cells #[.string f.1, .string f.2] 37)).heap[wr.heap.size]? = some (.cells #[.string f.1, .string f.2] 37 (0, 0)) := heap_alloc_new wr _
      have hsz := haf.size
      have hwb : w.heap.size < wr.heap.size := by rcases hbl with h | h <;> exact h.lt
      have hll := step_length HZ.out HT.out HF.out
      have hbc : (Lib.byteCells acc).length = acc.length := Lib.byteCells_length _
      have HX := Lib.hid hbox
      have HC := Lib.hid hbc
      clear hbox hbc
      cases k with
      | zero =>
        simp only [Nat.zero_mul, Nat.add_zero] at c1 c2
        simp only [decide_true, if_true] at hll
        go_wp2_with fail
        refine (writeString_any w.heap.size w.heap.size (Lib.byteCells acc) f.1 _ (hbl1 _) (by rw [HC.out]; omega) (by simp; omega)).mono ?_
        rintro e w1 ⟨rfl, b1, l1, k1⟩
        have x1 := box_kept k1 HX.out (by omega)
        have X1 := Lib.hid x1
        clear x1
        have e1 : w1.cell? ⟨wr.heap.size, 1, none⟩ = some (.string f.2) := by rw [Lib.cell_of_heap X1.out]; rfl
        have s1 := l1.size
        simp at s1
        go_wp2_with fail
        refine (writeByte_any w.heap.size w.heap.size _ 61 _ (.inr b1) (by rw [List.length_append, HC.out, Lib.strCells_length]; omega) (by omega)).mono ?_
        rintro e w2 ⟨rfl, b2, l2, k2⟩
        have X2 := Lib.hid (box_kept k2 X1.out (by omega))
        have e2 : w2.cell? ⟨wr.heap.size, 1, none⟩ = some (.string f.2) := by rw [Lib.cell_of_heap X2.out]; rfl
        have s2 := l2.size
        go_wp2_with fail
        refine (writeString_any w.heap.size w.heap.size _ f.2 _ (.inr b2) (by rw [List.length_append, List.length_append, HC.out, Lib.strCells_length]; simp; omega) (by omega)).mono ?_
        rintro e w3 ⟨rfl, b3, l3, k3⟩
        go_wp2
        go_roundw
        case rel => exact ⟨0 + 1, _, by omega, rfl, step_text HT.out HF.out, .inr (by rw [cells_first] at b3; exact b3), Below.trans (Below.trans (Below.trans (haf.alloc _) l1) l2) l3⟩
        case measure => simp [intOf]; omega
      | succ j =>
        have hj0 : decide (j + 1 = 0) = false := by simp
        rw [hj0] at hll
        simp only [Bool.false_eq_true, if_false] at hll
        go_wp2_with fail
        refine (writeByte_any w.heap.size w.heap.size (Lib.byteCells acc) 32 _ (hbl1 _) (by rw [HC.out]; omega) (by simp; omega)).mono ?_
        rintro e w0 ⟨rfl, b0, l0, k0⟩
        have X0 := Lib.hid (box_kept k0 HX.out (by omega))
        have e0 : w0.cell? ⟨wr.heap.size, 0, none⟩ = some (.string f.1) := by rw [Lib.cell_of_heap X0.out]; rfl
        have s0 := l0.size
        simp at s0
        go_wp2_with fail
        refine (writeString_any w.heap.size w.heap.size _ f.1 _ (.inr b0) (by rw [List.length_append, HC.out]; simp; omega) (by omega)).mono ?_
        rintro e w1 ⟨rfl, b1, l1, k1⟩
        have X1 := Lib.hid (box_kept k1 X0.out (by omega))
        have e1 : w1.cell? ⟨wr.heap.size, 1, none⟩ = some (.string f.2) := by rw [Lib.cell_of_heap X1.out]; rfl
        have s1 := l1.size
        go_wp2_with fail
        refine (writeByte_any w.heap.size w.heap.size _ 61 _ (.inr b1) (by rw [List.length_append, List.length_append, HC.out, Lib.strCells_length]; simp; omega) (by omega)).mono ?_
        rintro e w2 ⟨rfl, b2, l2, k2⟩
        have X2 := Lib.hid (box_kept k2 X1.out (by omega))
        have e2 : w2.cell? ⟨wr.heap.size, 1, none⟩ = some (.string f.2) := by rw [Lib.cell_of_heap X2.out]; rfl
        have s2 := l2.size
        go_wp2_with fail
        refine (writeString_any w.heap.size w.heap.size _ f.2 _ (.inr b2) (by rw [List.length_append, List.length_append, List.length_append, HC.out, Lib.strCells_length]; simp; omega) (by omega)).mono ?_
        rintro e w3 ⟨rfl, b3, l3, k3⟩
        go_wp2
        go_roundw
        case rel => exact ⟨j + 1 + 1, _, by omega, by go_num, step_text HT.out HF.out, .inr (by rw [cells_later] at b3; exact b3), Below.trans (Below.trans (Below.trans (Below.trans (haf.alloc _) l0) l1) l2) l3⟩
        case measure => simp [intOf]; omega
    · obtain rfl : k = n := by omega
      go_wp2_with fail
      refine (Tryd.Builder_String_any_k w.heap.size w.heap.size acc _ hbl haf.size).mono ?_
      rintro e w1 ⟨rfl, _, l1, _⟩
      go_wp2
      go_ret
      refine ⟨?_, Below.trans haf l1⟩
      rw [← textTo_all, HT.out, List.drop_of_length_le (by rw [hlen.out]; exact Nat.le_refl _)]
      rfl
end Go.Proofs.YtpkhoklahcgcoaaDoor
