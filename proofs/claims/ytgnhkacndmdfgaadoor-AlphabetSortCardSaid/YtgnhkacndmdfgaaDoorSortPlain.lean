/-
  Plain mathematics of stable sorting (no Go in sight): insertion, merging, and how a merge is divided. Conditions: lt is a strict weak order, where a theorem says so.
-/
import Derived.Test.YtgnhkacndmdfgaaDoorAlphPlain
namespace Go.Proofs.YtgnhkacndmdfgaaDoor.SortPlain
section
variable {α : Type} (lt : α → α → Bool)

/-- x behind all that do not come after it, from the left. -/
def insL (x : α) : List α → List α
  | [] => [x]
  | y :: l => if lt x y then x :: y :: l else y :: insL x l
/-- The same from the right, on the reversed list. -/
def insV (x : α) : List α → List α
  | [] => [x]
  | y :: r => if lt x y then y :: insV x r else x :: y :: r
def insR (x : α) (l : List α) : List α := (insV lt x l.reverse).reverse
def isort (l : List α) : List α := l.foldl (fun acc x => insR lt x acc) []
def mg : List α → List α → List α
  | [], r => r
  | l, [] => l
  | a :: l, b :: r => if lt b a then b :: mg (a :: l) r else a :: mg l (b :: r)
termination_by l r => l.length + r.length

/-- No element comes before an earlier one. -/
def Srt (l : List α) : Prop := l.Pairwise fun a b => lt b a = false
structure Weak : Prop where
  trans : ∀ {a b c}, lt a b = true → lt b c = true → lt a c = true
  low : ∀ {a b c}, lt b a = false → lt c b = false → lt c a = false
  irr : ∀ a, lt a a = false

theorem mg_nil (l : List α) : mg lt l [] = l := by cases l <;> simp [mg]
theorem mg_nilL (r : List α) : mg lt [] r = r := by simp [mg]
theorem mg_cons (a : α) (l : List α) (b : α) (r : List α) : mg lt (a :: l) (b :: r) = if lt b a then b :: mg lt (a :: l) r else a :: mg lt l (b :: r) := by rw [mg]

variable {lt}

theorem insL_mg0 (x : α) : ∀ (A : List α), insL lt x A = mg lt A [x]
  | [] => by rw [mg_nilL, insL]
  | a :: A => by
    rw [insL, mg_cons, mg_nil]
    cases lt x a
    · rw [if_neg (by simp), if_neg (by simp), insL_mg0 x A]
    · rw [if_pos rfl, if_pos rfl]

theorem insL_mg (W : Weak lt) (x : α) : ∀ (n : Nat) (A B : List α), A.length + B.length ≤ n → insL lt x (mg lt A B) = mg lt A (insL lt x B)
  | _, [], B, _ => by rw [mg_nilL, mg_nilL]
  | _, a :: A, [], _ => by rw [mg_nil, insL_mg0, insL]
  | 0, a :: A, b :: B, h => by simp at h
  | n + 1, a :: A, b :: B, h => by
    simp only [List.length_cons] at h
    cases hba : lt b a
    · have ih := insL_mg W x n A (b :: B) (by simp only [List.length_cons]; omega)
      have e1 : mg lt (a :: A) (b :: B) = a :: mg lt A (b :: B) := by simp [mg_cons, hba]
      cases hxa : lt x a
      · have e2 : insL lt x (a :: mg lt A (b :: B)) = a :: insL lt x (mg lt A (b :: B)) := by simp [insL, hxa]
        rw [e1, e2, ih]
        cases hxb : lt x b
        · have e3 : insL lt x (b :: B) = b :: insL lt x B := by simp [insL, hxb]
          rw [e3, mg_cons, hba]; simp
        · have e3 : insL lt x (b :: B) = x :: b :: B := by simp [insL, hxb]
          rw [e3, mg_cons lt a A x, hxa]; simp
      · have hxb : lt x b = true := by
          cases hxb : lt x b with
          | true => rfl
          | false => have := W.low hba hxb; rw [hxa] at this; cases this
        have e2 : insL lt x (a :: mg lt A (b :: B)) = x :: a :: mg lt A (b :: B) := by simp [insL, hxa]
        have e3 : insL lt x (b :: B) = x :: b :: B := by simp [insL, hxb]
        rw [e1, e2, e3, mg_cons lt a A x, hxa, e1]; simp
    · have ih := insL_mg W x n (a :: A) B (by simp only [List.length_cons]; omega)
      have e1 : mg lt (a :: A) (b :: B) = b :: mg lt (a :: A) B := by simp [mg_cons, hba]
      cases hxb : lt x b
      · have e2 : insL lt x (b :: mg lt (a :: A) B) = b :: insL lt x (mg lt (a :: A) B) := by simp [insL, hxb]
        have e3 : insL lt x (b :: B) = b :: insL lt x B := by simp [insL, hxb]
        rw [e1, e2, ih, e3, mg_cons, hba]; simp
      · have e2 : insL lt x (b :: mg lt (a :: A) B) = x :: b :: mg lt (a :: A) B := by simp [insL, hxb]
        have e3 : insL lt x (b :: B) = x :: b :: B := by simp [insL, hxb]
        rw [e1, e2, e3, mg_cons lt a A x, W.trans hxb hba, e1]; simp

theorem insL_all {x : α} : ∀ {l : List α} (k : List α), (∀ y ∈ l, lt x y = false) → insL lt x (l ++ k) = l ++ insL lt x k
  | [], k, _ => rfl
  | y :: l, k, h => by
    rw [List.cons_append, insL, h y (by simp), if_neg (by simp), insL_all k (fun z hz => h z (by simp [hz])), List.cons_append]

/-- On a sorted list both insertions are one. -/
theorem insV_eq (W : Weak lt) (x : α) : ∀ (r : List α), Srt lt r.reverse → (insV lt x r).reverse = insL lt x r.reverse
  | [], _ => rfl
  | y :: r, h => by
    rw [List.reverse_cons] at h ⊢
    have h1 : Srt lt r.reverse := (List.pairwise_append.1 h).1
    have h2 : ∀ z ∈ r.reverse, lt y z = false := fun z hz => (List.pairwise_append.1 h).2.2 z hz y (by simp)
    rw [insV]
    cases hxy : lt x y
    · rw [if_neg (by simp), List.reverse_cons, List.reverse_cons]
      have h3 : ∀ z ∈ r.reverse ++ [y], lt x z = false := by
        intro z hz
        rcases List.mem_append.1 hz with hz | hz
        · exact W.low (h2 z hz) hxy
        · simp at hz; subst hz; exact hxy
      have := insL_all [] h3
      rw [List.append_nil, insL] at this
      exact this.symm
    · rw [if_pos rfl, List.reverse_cons, insV_eq W x r h1]
      -- x goes somewhere ahead of y
      have key : ∀ l : List α, insL lt x (l ++ [y]) = insL lt x l ++ [y] := by
        intro l
        induction l with
        | nil => simp [insL, hxy]
        | cons z l ih =>
          rw [List.cons_append, insL, insL]
          cases lt x z
          · rw [if_neg (by simp), if_neg (by simp), ih, List.cons_append]
          · rw [if_pos rfl, if_pos rfl]; rfl
      rw [key]
theorem insR_eq (W : Weak lt) (x : α) {l : List α} (h : Srt lt l) : insR lt x l = insL lt x l := by
  unfold insR
  rw [insV_eq W x l.reverse (by rwa [List.reverse_reverse]), List.reverse_reverse]

theorem mem_insL {x z : α} : ∀ {l : List α}, z ∈ insL lt x l ↔ z = x ∨ z ∈ l
  | [] => by simp [insL]
  | y :: l => by
    rw [insL]
    split
    · simp
    · simp only [List.mem_cons, mem_insL (l := l)]
      constructor
      · rintro (h | h | h) <;> simp [h]
      · rintro (h | h | h) <;> simp [h]
theorem insL_srt (W : Weak lt) (x : α) : ∀ {l : List α}, Srt lt l → Srt lt (insL lt x l)
  | [], _ => List.pairwise_singleton _ _
  | y :: l, h => by
    have h1 := List.pairwise_cons.1 h
    rw [insL]
    cases hxy : lt x y
    · rw [if_neg (by simp)]
      refine List.pairwise_cons.2 ⟨fun z hz => ?_, insL_srt W x h1.2⟩
      rcases mem_insL.1 hz with rfl | hz
      · exact hxy
      · exact h1.1 z hz
    · rw [if_pos rfl]
      have hyx : lt y x = false := by
        cases e : lt y x with
        | false => rfl
        | true => have := W.trans hxy e; rw [W.irr] at this; cases this
      refine List.pairwise_cons.2 ⟨fun z hz => ?_, h⟩
      rcases List.mem_cons.1 hz with rfl | hz
      · exact hyx
      · exact W.low hyx (h1.1 z hz)

theorem fold_srt (W : Weak lt) : ∀ (r acc : List α), Srt lt acc → Srt lt (r.foldl (fun acc x => insR lt x acc) acc)
  | [], _, h => h
  | x :: r, acc, h => by
    rw [List.foldl_cons]
    refine fold_srt W r _ ?_
    rw [insR_eq W x h]
    exact insL_srt W x h
theorem isort_srt (W : Weak lt) (l : List α) : Srt lt (isort lt l) := fold_srt W l [] List.Pairwise.nil
theorem fold_mg (W : Weak lt) (A : List α) : ∀ (r B : List α), Srt lt B → Srt lt (mg lt A B) → r.foldl (fun acc x => insR lt x acc) (mg lt A B) = mg lt A (r.foldl (fun acc x => insR lt x acc) B)
  | [], _, _, _ => rfl
  | x :: r, B, hB, hM => by
    rw [List.foldl_cons, List.foldl_cons, insR_eq W x hM, insR_eq W x hB, insL_mg W x _ A B (Nat.le_refl _)]
    refine fold_mg W A r _ (insL_srt W x hB) ?_
    rw [← insL_mg W x _ A B (Nat.le_refl _)]
    exact insL_srt W x hM
/-- The first part sorted, the second part sorted, merged: the whole sorted. -/
theorem isort_append (W : Weak lt) (L R : List α) : isort lt (L ++ R) = mg lt (isort lt L) (isort lt R) := by
  unfold isort
  rw [List.foldl_append]
  have h := fold_mg W (L.foldl (fun acc x => insR lt x acc) []) R [] List.Pairwise.nil (by rw [mg_nil]; exact fold_srt W L [] List.Pairwise.nil)
  rw [mg_nil] at h
  exact h

/-- A merge is divided where everything ahead comes before everything behind. -/
theorem mg_split : ∀ (n : Nat) (L1 R1 L2 R2 : List α), L1.length + R1.length ≤ n → (∀ r ∈ R1, ∀ l ∈ L2, lt r l = true) → (∀ l ∈ L1, ∀ r ∈ R2, lt r l = false) → mg lt (L1 ++ L2) (R1 ++ R2) = mg lt L1 R1 ++ mg lt L2 R2
  | _, [], [], L2, R2, _, _, _ => by rw [mg_nil]; rfl
  | 0, [], _ :: _, _, _, h, _, _ => by simp at h
  | 0, _ :: _, _, _, _, h, _, _ => by simp at h
  | n + 1, [], r :: R1, L2, R2, hn, h1, h2 => by
    rw [mg_nilL]
    cases L2 with
    | nil => simp only [List.nil_append]; rw [mg_nilL, mg_nilL]
    | cons l L2 =>
      rw [List.nil_append, List.cons_append, mg_cons, h1 r (by simp) l (by simp), if_pos rfl]
      have := mg_split n [] R1 (l :: L2) R2 (by simp at hn ⊢; omega) (fun r hr => h1 r (by simp [hr])) (fun l hl => by cases hl)
      rw [List.nil_append, mg_nilL] at this
      rw [this]; rfl
  | n + 1, a :: L1, [], L2, R2, hn, h1, h2 => by
    rw [mg_nil]
    cases R2 with
    | nil => simp only [List.nil_append]; rw [mg_nil, mg_nil]
    | cons r R2 =>
      rw [List.nil_append, List.cons_append, mg_cons, h2 a (by simp) r (by simp), if_neg (by simp)]
      have := mg_split n L1 [] L2 (r :: R2) (by simp at hn ⊢; omega) (fun r hr => by cases hr) (fun l hl => h2 l (by simp [hl]))
      rw [List.nil_append, mg_nil] at this
      rw [this]; rfl
  | n + 1, a :: L1, r :: R1, L2, R2, hn, h1, h2 => by
    simp only [List.length_cons] at hn
    rw [List.cons_append, List.cons_append, mg_cons, mg_cons]
    cases h : lt r a
    · rw [if_neg (by simp), if_neg (by simp), List.cons_append]
      have := mg_split n L1 (r :: R1) L2 R2 (by simp; omega) h1 (fun l hl => h2 l (by simp [hl]))
      rw [List.cons_append] at this
      rw [this]
    · rw [if_pos rfl, if_pos rfl, List.cons_append]
      have := mg_split n (a :: L1) R1 L2 R2 (by simp; omega) (fun r hr => h1 r (by simp [hr])) h2
      rw [List.cons_append] at this
      rw [this]

theorem mg_one {x : α} {R1 R2 : List α} (h1 : ∀ r ∈ R1, lt r x = true) (h2 : ∀ r ∈ R2, lt r x = false) : mg lt [x] (R1 ++ R2) = R1 ++ x :: R2 := by
  have := mg_split _ [] R1 [x] R2 (Nat.le_refl _) (fun r hr l hl => by simp at hl; subst hl; exact h1 r hr) (fun l hl => by cases hl)
  rw [List.nil_append, mg_nilL] at this
  rw [this]
  have := mg_split _ [x] [] [] R2 (Nat.le_refl _) (fun r hr => by cases hr) (fun l hl r hr => by simp at hl; subst hl; exact h2 r hr)
  rw [List.nil_append, List.append_nil, mg_nil, mg_nilL] at this
  rw [this]; rfl
theorem one_mg {y : α} {L1 L2 : List α} (h1 : ∀ l ∈ L1, lt y l = false) (h2 : ∀ l ∈ L2, lt y l = true) : mg lt (L1 ++ L2) [y] = L1 ++ y :: L2 := by
  have := mg_split _ L1 [] L2 [y] (Nat.le_refl _) (fun r hr => by cases hr) (fun l hl r hr => by simp at hr; subst hr; exact h1 l hl)
  rw [List.nil_append, mg_nil] at this
  rw [this]
  have := mg_split _ [] [y] L2 [] (Nat.le_refl _) (fun r hr l hl => by simp at hr; subst hr; exact h2 l hl) (fun l hl => by cases hl)
  rw [List.nil_append, List.append_nil, mg_nil, mg_nilL] at this
  rw [this]; rfl
end
end Go.Proofs.YtgnhkacndmdfgaaDoor.SortPlain
