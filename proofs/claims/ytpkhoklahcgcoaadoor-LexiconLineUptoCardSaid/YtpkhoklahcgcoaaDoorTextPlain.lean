/-
  Plain mathematics of the texts of records (no Go in sight): how a text is divided into parts and features, and that this inverts 'text'. Conditions: as each theorem says.
-/
import Derived.Test.YtpkhoklahcgcoaaDoorFtAll
namespace Go.Proofs.YtpkhoklahcgcoaaDoor
open FeatPlain

abbrev Bt := List UInt8
/-- A text's parts between blanks. -/
def parts : Bt → List Bt
  | [] => [[]]
  | c :: t => if c = 32 then [] :: parts t else match parts t with
    | [] => [[c]]
    | p :: ps => (c :: p) :: ps

theorem parts_ne : ∀ t, parts t ≠ []
  | [] => by simp [parts]
  | c :: t => by
    rw [parts]
    split
    · simp
    · cases h : parts t <;> simp
theorem parts_none : ∀ {t : Bt}, (32 : UInt8) ∉ t → parts t = [t]
  | [], _ => rfl
  | c :: t, h => by
    have hc : ¬ c = 32 := fun e => h (by simp [e])
    rw [parts, if_neg hc, parts_none (fun e => h (List.mem_cons_of_mem _ e))]
theorem parts_cons : ∀ {p : Bt} (t : Bt), (32 : UInt8) ∉ p → parts (p ++ 32 :: t) = p :: parts t
  | [], t, _ => by simp [parts]
  | c :: p, t, h => by
    have hc : ¬ c = 32 := fun e => h (by simp [e])
    rw [List.cons_append, parts, if_neg hc, parts_cons t (fun e => h (List.mem_cons_of_mem _ e))]
theorem parts_len : ∀ t : Bt, (parts t).length ≤ t.length + 1
  | [] => by simp [parts]
  | c :: t => by
    have := parts_len t
    rw [parts]
    split
    · simp; omega
    · cases h : parts t with
      | nil => simp
      | cons p ps => rw [h] at this; simp at this ⊢; omega

/-- What is before and behind the first c. -/
def cutB (c : UInt8) : Bt → Option (Bt × Bt)
  | [] => none
  | x :: t => if x = c then some ([], t) else (cutB c t).map fun ab => (x :: ab.1, ab.2)
theorem cutB_none {c : UInt8} : ∀ {p : Bt}, c ∉ p → cutB c p = none
  | [], _ => rfl
  | x :: t, h => by
    have hx : ¬ x = c := fun e => h (by simp [e])
    rw [cutB, if_neg hx, cutB_none (fun e => h (List.mem_cons_of_mem _ e))]; rfl
theorem cutB_some {c : UInt8} : ∀ {a : Bt} (b : Bt), c ∉ a → cutB c (a ++ c :: b) = some (a, b)
  | [], b, _ => by simp [cutB]
  | x :: a, b, h => by
    have hx : ¬ x = c := fun e => h (by simp [e])
    rw [List.cons_append, cutB, if_neg hx, cutB_some b (fun e => h (List.mem_cons_of_mem _ e))]; rfl
theorem cutB_eq {c : UInt8} : ∀ {p a b : Bt}, cutB c p = some (a, b) → p = a ++ c :: b
  | [], _, _, h => by simp [cutB] at h
  | x :: t, a, b, h => by
    rw [cutB] at h
    split at h
    · cases h
      subst_vars
      rfl
    · obtain ⟨⟨a', b'⟩, h1, h2⟩ := Option.map_eq_some_iff.1 h
      cases h2
      rw [cutB_eq h1]; rfl

def ba (l : Bt) : ByteArray := ⟨l.toArray⟩
theorem ba_list (l : Bt) : (ba l).data.toList = l := by simp [ba]
theorem ba_self (s : ByteArray) : ba s.data.toList = s := by cases s; simp [ba]
theorem ba_size (l : Bt) : (ba l).size = l.length := by simp [ba, ByteArray.size]

/-- The feature that a part says. -/
def ftOf (p : Bt) : Option Ft := (cutB 61 p).map fun ab => (ba ab.1, ba ab.2)
def feats : List Bt → Option (List Ft)
  | [] => some []
  | p :: ps => match ftOf p with
    | none => none
    | some f => (feats ps).map (f :: ·)
theorem ftOf_one {p : Bt} {f : Ft} (h : ftOf p = some f) : one f = p := by
  obtain ⟨⟨a, b⟩, h1, rfl⟩ := Option.map_eq_some_iff.1 h
  rw [cutB_eq h1]
  simp [one, ba_list]
theorem feats_snoc : ∀ {ps : List Bt} {l : List Ft} {p : Bt} {f : Ft}, feats ps = some l → ftOf p = some f → feats (ps ++ [p]) = some (l ++ [f])
  | [], l, p, f, h, hf => by
    cases h
    simp [feats, hf]
  | q :: ps, l, p, f, h, hf => by
    rw [feats] at h
    cases hq : ftOf q with
    | none => rw [hq] at h; cases h
    | some g =>
      rw [hq] at h
      obtain ⟨l', h1, rfl⟩ := Option.map_eq_some_iff.1 h
      rw [List.cons_append, feats, hq, feats_snoc h1 hf]; rfl
theorem feats_bad : ∀ {ps : List Bt} {p : Bt}, p ∈ ps → ftOf p = none → feats ps = none
  | q :: ps, p, h, hp => by
    rw [feats]
    rcases List.mem_cons.1 h with rfl | h
    · rw [hp]
    · cases ftOf q with
      | none => rfl
      | some g => rw [feats_bad h hp]; rfl
theorem feats_len : ∀ {ps : List Bt} {l : List Ft}, feats ps = some l → l.length = ps.length
  | [], l, h => by cases h; rfl
  | q :: ps, l, h => by
    rw [feats] at h
    cases hq : ftOf q with
    | none => rw [hq] at h; cases h
    | some g =>
      rw [hq] at h
      obtain ⟨l', h1, rfl⟩ := Option.map_eq_some_iff.1 h
      simp [feats_len h1]

/-- The parts, with blanks between them. -/
def joinP : List Bt → Bt
  | [] => []
  | [p] => p
  | p :: q :: ps => p ++ [32] ++ joinP (q :: ps)
theorem joinP_parts : ∀ t, joinP (parts t) = t
  | [] => rfl
  | c :: t => by
    have ih := joinP_parts t
    have hn := parts_ne t
    rw [parts]
    cases h : parts t with
    | nil => exact absurd h hn
    | cons p ps =>
      rw [h] at ih
      split
      · next hc => rw [joinP, ih, hc]; simp
      · simp only
        cases ps with
        | nil => simp [joinP] at ih ⊢; exact ih
        | cons q ps => simp [joinP] at ih ⊢; exact ih
theorem text_feats : ∀ {ps : List Bt} {l : List Ft}, feats ps = some l → text l = joinP ps
  | [], l, h => by cases h; rfl
  | [p], l, h => by
    rw [feats] at h
    cases hq : ftOf p with
    | none => rw [hq] at h; cases h
    | some g =>
      rw [hq] at h
      cases h
      rw [text, joinP, ftOf_one hq]
  | p :: q :: ps, l, h => by
    rw [feats] at h
    cases hq : ftOf p with
    | none => rw [hq] at h; cases h
    | some g =>
      rw [hq] at h
      obtain ⟨l', h1, rfl⟩ := Option.map_eq_some_iff.1 h
      have hl := feats_len h1
      cases l' with
      | nil => simp at hl
      | cons f l' => rw [text, joinP, ftOf_one hq, text_feats h1]

/-- What Parse returns: the record, or nothing. -/
def res (s : Bt) : Option (List Ft) := if s = [] then some [] else match feats (parts s) with
  | none => none
  | some l => if validB l = true then some l else none
theorem res_nil : res [] = some [] := rfl
theorem res_bad {s : Bt} (h0 : s ≠ []) (h : feats (parts s) = none) : res s = none := by rw [res, if_neg h0, h]
theorem res_wrong {s : Bt} {l : List Ft} (h0 : s ≠ []) (h : feats (parts s) = some l) (hv : validB l = false) : res s = none := by rw [res, if_neg h0, h]; simp [hv]
theorem res_good {s : Bt} {l : List Ft} (h0 : s ≠ []) (h : feats (parts s) = some l) (hv : validB l = true) : res s = some l := by rw [res, if_neg h0, h]; simp [hv]
theorem res_text {s : Bt} {l : List Ft} (h : res s = some l) : text l = s := by
  unfold res at h
  split at h
  · next e => cases h; rw [e]; rfl
  · cases hf : feats (parts s) with
    | none => rw [hf] at h; cases h
    | some l' =>
      rw [hf] at h
      simp only at h
      split at h
      · cases h; rw [text_feats hf, joinP_parts]
      · cases h

theorem name_no {s : ByteArray} (h : isName s = true) (c : UInt8) (hc : nameByte c = false) : c ∉ s.data.toList := by
  intro hm
  unfold isName at h
  rw [Bool.and_eq_true, List.all_eq_true] at h
  have := h.1 c hm
  rw [hc] at this
  cases this
theorem one_no {f : Ft} (h : named f = true) : (32 : UInt8) ∉ one f := by
  unfold named at h
  rw [Bool.and_eq_true] at h
  have h1 := name_no h.1 32 (by decide)
  have h2 := name_no h.2 32 (by decide)
  unfold one
  rw [List.mem_append, List.mem_append]
  rintro ((e | e) | e)
  · exact h1 e
  · simp at e
  · exact h2 e
theorem ftOf_of_one {f : Ft} (h : named f = true) : ftOf (one f) = some f := by
  unfold named at h
  rw [Bool.and_eq_true] at h
  have h1 := name_no h.1 61 (by decide)
  have e : one f = f.1.data.toList ++ 61 :: f.2.data.toList := by simp [one]
  unfold ftOf
  rw [e, cutB_some _ h1]
  simp [ba_self]
theorem parts_text : ∀ {l : List Ft}, l ≠ [] → l.all named = true → parts (text l) = l.map one
  | [f], _, h => by
    simp at h
    rw [text, parts_none (one_no h)]; rfl
  | f :: g :: l, _, h => by
    rw [List.all_cons, Bool.and_eq_true] at h
    rw [text, List.append_assoc, List.singleton_append, parts_cons _ (one_no h.1), parts_text (by simp) h.2]; rfl
theorem feats_map : ∀ {l : List Ft}, l.all named = true → feats (l.map one) = some l
  | [], _ => rfl
  | f :: l, h => by
    rw [List.all_cons, Bool.and_eq_true] at h
    rw [List.map_cons, feats, ftOf_of_one h.1, feats_map h.2]; rfl
theorem res_of_text {l : List Ft} (h : validB l = true) : res (text l) = some l := by
  cases l with
  | nil => rfl
  | cons f l =>
    have hn : (f :: l).all named = true := by
      unfold validB at h
      simp only [Bool.and_eq_true] at h
      exact h.2.1
    have hne : text (f :: l) ≠ [] := by
      have h1 : joinP (parts (text (f :: l))) = text (f :: l) := joinP_parts _
      intro e
      rw [e] at h1
      have h2 := parts_text (l := f :: l) (by simp) hn
      rw [e] at h2
      have : one f = [] := by
        simp [parts] at h2
        exact h2.1
      simp [one] at this
    exact res_good hne (by rw [parts_text (by simp) hn]; exact feats_map hn) h
end Go.Proofs.YtpkhoklahcgcoaaDoor
